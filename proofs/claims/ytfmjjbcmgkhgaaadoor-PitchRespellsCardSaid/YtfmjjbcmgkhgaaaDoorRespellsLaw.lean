/- PitchRespells: for every pitch and number of steps, Respell returns the pitch of the reference, or ErrPitch, and leads back; the arguments read as before; the tables and variables that the row lists are tied to the program text; no further condition. -/
import Derived.Test.YtfmjjbcmgkhgaaaDoorArg
import Derived.Test.YtfmjjbcmgkhgaaaDoorRef1
import Derived.Test.YtfmjjbcmgkhgaaaDoorTri
import Derived.Test.YtfmjjbcmgkhgaaaDoorRResp
namespace Go.Proofs.YtfmjjbcmgkhgaaaDoor
open Go.RowKit
attribute [local go_sem] World.cell?_alloc_some

set_option maxRecDepth 20000 in
set_option maxHeartbeats 3200000 in
theorem respells_walk (s a o k : Int) (w : World) (_ : -9223372036854775808 ≤ s) (_ : s ≤ 9223372036854775807) (_ : -9223372036854775808 ≤ a) (_ : a ≤ 9223372036854775807) (_ : -9223372036854775808 ≤ o) (_ : o ≤ 9223372036854775807)
    (_ : -9223372036854775808 ≤ k) (_ : k ≤ 9223372036854775807) (hT : Tab w) :
    Calls Tryd.prog 6 #[.agg #[.int .i64 s, .int .i64 a, .int .i64 o], .int .i64 k] w fun e w' => e = .returned (.bool true) ∧ G w w' := by
  have HT := Lib.hid hT
  clear hT
  by_cases h : Ok s a o
  rotate_left
  · have HO := Lib.hid h
    have HQ := Lib.hid (show rsp s a o k = none from if_neg h)
    clear h
    go_enter Tryd.func6, Tryd.ntmps6
    go_wp2_with fail
    refine (Respell_any s a o k _ (HT.out.later (by (repeat' (first | (with_reducible exact G.refl _) | (with_reducible assumption) | (with_reducible refine G.drewN ?_ _) | (with_reducible refine G.drew ?_) | (with_reducible refine G.alloc ?_ _) | (with_reducible refine G.setCell ?_ (by first | (with_reducible exact Nat.le_refl _) | (simp; done) | (simp; omega) | omega) _) | (with_reducible refine G.trans ?_ (by assumption)))))).hts).mono ?_
    rintro e w1 ⟨rfl, hG1⟩
    rw [HQ.out]
    have gb0_1 : G (w.alloc (.cells #[.int .i64 s, .int .i64 a, .int .i64 o] 23)) w1 := by (repeat' (first | (with_reducible exact G.refl _) | (with_reducible assumption) | (with_reducible refine G.drewN ?_ _) | (with_reducible refine G.drew ?_) | (with_reducible refine G.alloc ?_ _) | (with_reducible refine G.setCell ?_ (by first | (with_reducible exact Nat.le_refl _) | (simp; done) | (simp; omega) | omega) _) | (with_reducible refine G.trans ?_ (by assumption))))
    have gs1 : G w w1 := by (repeat' (first | (with_reducible exact G.refl _) | (with_reducible assumption) | (with_reducible refine G.drewN ?_ _) | (with_reducible refine G.drew ?_) | (with_reducible refine G.alloc ?_ _) | (with_reducible refine G.setCell ?_ (by first | (with_reducible exact Nat.le_refl _) | (simp; done) | (simp; omega) | omega) _) | (with_reducible refine G.trans ?_ (by assumption))))
    obtain ⟨c0a, c0b, c0c⟩ := tri_at (n := w.heap.size) (by simp) gb0_1
    have gw1 : G w w1 := by (repeat' (first | (with_reducible exact G.refl _) | (with_reducible assumption) | (with_reducible refine G.drewN ?_ _) | (with_reducible refine G.drew ?_) | (with_reducible refine G.alloc ?_ _) | (with_reducible refine G.setCell ?_ (by first | (with_reducible exact Nat.le_refl _) | (simp; done) | (simp; omega) | omega) _) | (with_reducible refine G.trans ?_ (by assumption))))
    rw [show rspE none = 18 from rfl]
    dsimp only [rspP, Option.getD_none]
    go_wp2_with fail
    refine (known_any _ (HT.out.later (by (repeat' (first | (with_reducible exact G.refl _) | (with_reducible assumption) | (with_reducible refine G.drewN ?_ _) | (with_reducible refine G.drew ?_) | (with_reducible refine G.alloc ?_ _) | (with_reducible refine G.setCell ?_ (by first | (with_reducible exact Nat.le_refl _) | (simp; done) | (simp; omega) | omega) _) | (with_reducible refine G.trans ?_ (by assumption))))))).mono ?_
    rintro e w2 ⟨rfl, hG2⟩
    clear c0a c0b c0c
    have gb1_2 : G (w1.alloc (.cells #[.int .i64 0, .int .i64 0, .int .i64 0] 23)) w2 := by (repeat' (first | (with_reducible exact G.refl _) | (with_reducible assumption) | (with_reducible refine G.drewN ?_ _) | (with_reducible refine G.drew ?_) | (with_reducible refine G.alloc ?_ _) | (with_reducible refine G.setCell ?_ (by first | (with_reducible exact Nat.le_refl _) | (simp; done) | (simp; omega) | omega) _) | (with_reducible refine G.trans ?_ (by assumption))))
    have gs2 : G w1 w2 := by (repeat' (first | (with_reducible exact G.refl _) | (with_reducible assumption) | (with_reducible refine G.drewN ?_ _) | (with_reducible refine G.drew ?_) | (with_reducible refine G.alloc ?_ _) | (with_reducible refine G.setCell ?_ (by first | (with_reducible exact Nat.le_refl _) | (simp; done) | (simp; omega) | omega) _) | (with_reducible refine G.trans ?_ (by assumption))))
    have gb0_2 := gb0_1.trans gs2
    clear gb0_1
    obtain ⟨c0a, c0b, c0c⟩ := tri_at (n := w.heap.size) (by simp) gb0_2
    obtain ⟨c1a, c1b, c1c⟩ := tri_at (n := w1.heap.size) (by simp) gb1_2
    have gw2 : G w w2 := gw1.trans gs2
    go_wp2_with fail
    refine (rExists_any s a o _).mono ?_
    rintro e w3 ⟨rfl, hG3⟩
    rw [decide_eq_false HO.out]
    clear c0a c0b c0c c1a c1b c1c
    have gs3 : G w2 w3 := by (repeat' (first | (with_reducible exact G.refl _) | (with_reducible assumption) | (with_reducible refine G.drewN ?_ _) | (with_reducible refine G.drew ?_) | (with_reducible refine G.alloc ?_ _) | (with_reducible refine G.setCell ?_ (by first | (with_reducible exact Nat.le_refl _) | (simp; done) | (simp; omega) | omega) _) | (with_reducible refine G.trans ?_ (by assumption))))
    have gb0_3 := gb0_2.trans gs3
    clear gb0_2
    have gb1_3 := gb1_2.trans gs3
    clear gb1_2
    obtain ⟨c0a, c0b, c0c⟩ := tri_at (n := w.heap.size) (by simp) gb0_3
    obtain ⟨c1a, c1b, c1c⟩ := tri_at (n := w1.heap.size) (by simp) gb1_3
    have gw3 : G w w3 := gw2.trans gs3
    go_wp2_with fail
    go_ret
    exact ⟨rfl, by (repeat' (first | (with_reducible exact G.refl _) | (with_reducible assumption) | (with_reducible refine G.drewN ?_ _) | (with_reducible refine G.drew ?_) | (with_reducible refine G.alloc ?_ _) | (with_reducible refine G.setCell ?_ (by first | (with_reducible exact Nat.le_refl _) | (simp; done) | (simp; omega) | omega) _) | (with_reducible refine G.trans ?_ (by assumption))))⟩
  have HO := Lib.hid h
  cases hr : rspF (7 * o + s) k (all5 (ht s a o)) with
  | none =>
    have HR := Lib.hid hr
    have HQ := Lib.hid (show rsp s a o k = none by unfold rsp; rw [if_pos h, hr])
    clear h hr
    go_enter Tryd.func6, Tryd.ntmps6
    go_wp2_with fail
    refine (Respell_any s a o k _ (HT.out.later (by (repeat' (first | (with_reducible exact G.refl _) | (with_reducible assumption) | (with_reducible refine G.drewN ?_ _) | (with_reducible refine G.drew ?_) | (with_reducible refine G.alloc ?_ _) | (with_reducible refine G.setCell ?_ (by first | (with_reducible exact Nat.le_refl _) | (simp; done) | (simp; omega) | omega) _) | (with_reducible refine G.trans ?_ (by assumption)))))).hts).mono ?_
    rintro e w1 ⟨rfl, hG1⟩
    rw [HQ.out]
    have gb0_1 : G (w.alloc (.cells #[.int .i64 s, .int .i64 a, .int .i64 o] 23)) w1 := by (repeat' (first | (with_reducible exact G.refl _) | (with_reducible assumption) | (with_reducible refine G.drewN ?_ _) | (with_reducible refine G.drew ?_) | (with_reducible refine G.alloc ?_ _) | (with_reducible refine G.setCell ?_ (by first | (with_reducible exact Nat.le_refl _) | (simp; done) | (simp; omega) | omega) _) | (with_reducible refine G.trans ?_ (by assumption))))
    have gs1 : G w w1 := by (repeat' (first | (with_reducible exact G.refl _) | (with_reducible assumption) | (with_reducible refine G.drewN ?_ _) | (with_reducible refine G.drew ?_) | (with_reducible refine G.alloc ?_ _) | (with_reducible refine G.setCell ?_ (by first | (with_reducible exact Nat.le_refl _) | (simp; done) | (simp; omega) | omega) _) | (with_reducible refine G.trans ?_ (by assumption))))
    obtain ⟨c0a, c0b, c0c⟩ := tri_at (n := w.heap.size) (by simp) gb0_1
    have gw1 : G w w1 := by (repeat' (first | (with_reducible exact G.refl _) | (with_reducible assumption) | (with_reducible refine G.drewN ?_ _) | (with_reducible refine G.drew ?_) | (with_reducible refine G.alloc ?_ _) | (with_reducible refine G.setCell ?_ (by first | (with_reducible exact Nat.le_refl _) | (simp; done) | (simp; omega) | omega) _) | (with_reducible refine G.trans ?_ (by assumption))))
    rw [show rspE none = 18 from rfl]
    dsimp only [rspP, Option.getD_none]
    go_wp2_with fail
    refine (known_any _ (HT.out.later (by (repeat' (first | (with_reducible exact G.refl _) | (with_reducible assumption) | (with_reducible refine G.drewN ?_ _) | (with_reducible refine G.drew ?_) | (with_reducible refine G.alloc ?_ _) | (with_reducible refine G.setCell ?_ (by first | (with_reducible exact Nat.le_refl _) | (simp; done) | (simp; omega) | omega) _) | (with_reducible refine G.trans ?_ (by assumption))))))).mono ?_
    rintro e w2 ⟨rfl, hG2⟩
    clear c0a c0b c0c
    have gb1_2 : G (w1.alloc (.cells #[.int .i64 0, .int .i64 0, .int .i64 0] 23)) w2 := by (repeat' (first | (with_reducible exact G.refl _) | (with_reducible assumption) | (with_reducible refine G.drewN ?_ _) | (with_reducible refine G.drew ?_) | (with_reducible refine G.alloc ?_ _) | (with_reducible refine G.setCell ?_ (by first | (with_reducible exact Nat.le_refl _) | (simp; done) | (simp; omega) | omega) _) | (with_reducible refine G.trans ?_ (by assumption))))
    have gs2 : G w1 w2 := by (repeat' (first | (with_reducible exact G.refl _) | (with_reducible assumption) | (with_reducible refine G.drewN ?_ _) | (with_reducible refine G.drew ?_) | (with_reducible refine G.alloc ?_ _) | (with_reducible refine G.setCell ?_ (by first | (with_reducible exact Nat.le_refl _) | (simp; done) | (simp; omega) | omega) _) | (with_reducible refine G.trans ?_ (by assumption))))
    have gb0_2 := gb0_1.trans gs2
    clear gb0_1
    obtain ⟨c0a, c0b, c0c⟩ := tri_at (n := w.heap.size) (by simp) gb0_2
    obtain ⟨c1a, c1b, c1c⟩ := tri_at (n := w1.heap.size) (by simp) gb1_2
    have gw2 : G w w2 := gw1.trans gs2
    go_wp2_with fail
    refine (rExists_any s a o _).mono ?_
    rintro e w3 ⟨rfl, hG3⟩
    rw [decide_eq_true HO.out]
    clear c0a c0b c0c c1a c1b c1c
    have gs3 : G w2 w3 := by (repeat' (first | (with_reducible exact G.refl _) | (with_reducible assumption) | (with_reducible refine G.drewN ?_ _) | (with_reducible refine G.drew ?_) | (with_reducible refine G.alloc ?_ _) | (with_reducible refine G.setCell ?_ (by first | (with_reducible exact Nat.le_refl _) | (simp; done) | (simp; omega) | omega) _) | (with_reducible refine G.trans ?_ (by assumption))))
    have gb0_3 := gb0_2.trans gs3
    clear gb0_2
    have gb1_3 := gb1_2.trans gs3
    clear gb1_2
    obtain ⟨c0a, c0b, c0c⟩ := tri_at (n := w.heap.size) (by simp) gb0_3
    obtain ⟨c1a, c1b, c1c⟩ := tri_at (n := w1.heap.size) (by simp) gb1_3
    have gw3 : G w w3 := gw2.trans gs3
    go_wp2_with fail
    refine (rRespell_any s a o k _ HO.out).mono ?_
    rintro e w4 ⟨rfl, hG4⟩
    rw [HR.out]
    clear c0a c0b c0c c1a c1b c1c
    have gs4 : G w3 w4 := by (repeat' (first | (with_reducible exact G.refl _) | (with_reducible assumption) | (with_reducible refine G.drewN ?_ _) | (with_reducible refine G.drew ?_) | (with_reducible refine G.alloc ?_ _) | (with_reducible refine G.setCell ?_ (by first | (with_reducible exact Nat.le_refl _) | (simp; done) | (simp; omega) | omega) _) | (with_reducible refine G.trans ?_ (by assumption))))
    have gb0_4 := gb0_3.trans gs4
    clear gb0_3
    have gb1_4 := gb1_3.trans gs4
    clear gb1_3
    obtain ⟨c0a, c0b, c0c⟩ := tri_at (n := w.heap.size) (by simp) gb0_4
    obtain ⟨c1a, c1b, c1c⟩ := tri_at (n := w1.heap.size) (by simp) gb1_4
    have gw4 : G w w4 := gw3.trans gs4
    dsimp only [rspP, Option.getD_none, Option.isSome_none]
    go_wp2_with fail
    go_ret
    exact ⟨rfl, by (repeat' (first | (with_reducible exact G.refl _) | (with_reducible assumption) | (with_reducible refine G.drewN ?_ _) | (with_reducible refine G.drew ?_) | (with_reducible refine G.alloc ?_ _) | (with_reducible refine G.setCell ?_ (by first | (with_reducible exact Nat.le_refl _) | (simp; done) | (simp; omega) | omega) _) | (with_reducible refine G.trans ?_ (by assumption))))⟩
  | some p =>
    obtain ⟨x, b, c⟩ := p
    have HR := Lib.hid hr
    have HQ := Lib.hid (show rsp s a o k = some (x, b, c) by unfold rsp; rw [if_pos h, hr])
    obtain ⟨hx, hk, hb⟩ := rsp_back h hr
    have HB := Lib.hid hb
    obtain ⟨⟨⟨_, _⟩, _, _, _⟩, _⟩ := hx
    obtain ⟨⟨⟨_, _⟩, _, _, _⟩, _⟩ := h
    have kb : -200 ≤ k ∧ k ≤ 200 := by omega
    clear hr hb hk
    go_enter Tryd.func6, Tryd.ntmps6
    go_wp2_with fail
    refine (Respell_any s a o k _ (HT.out.later (by (repeat' (first | (with_reducible exact G.refl _) | (with_reducible assumption) | (with_reducible refine G.drewN ?_ _) | (with_reducible refine G.drew ?_) | (with_reducible refine G.alloc ?_ _) | (with_reducible refine G.setCell ?_ (by first | (with_reducible exact Nat.le_refl _) | (simp; done) | (simp; omega) | omega) _) | (with_reducible refine G.trans ?_ (by assumption)))))).hts).mono ?_
    rintro e w1 ⟨rfl, hG1⟩
    rw [HQ.out]
    have gb0_1 : G (w.alloc (.cells #[.int .i64 s, .int .i64 a, .int .i64 o] 23)) w1 := by (repeat' (first | (with_reducible exact G.refl _) | (with_reducible assumption) | (with_reducible refine G.drewN ?_ _) | (with_reducible refine G.drew ?_) | (with_reducible refine G.alloc ?_ _) | (with_reducible refine G.setCell ?_ (by first | (with_reducible exact Nat.le_refl _) | (simp; done) | (simp; omega) | omega) _) | (with_reducible refine G.trans ?_ (by assumption))))
    have gs1 : G w w1 := by (repeat' (first | (with_reducible exact G.refl _) | (with_reducible assumption) | (with_reducible refine G.drewN ?_ _) | (with_reducible refine G.drew ?_) | (with_reducible refine G.alloc ?_ _) | (with_reducible refine G.setCell ?_ (by first | (with_reducible exact Nat.le_refl _) | (simp; done) | (simp; omega) | omega) _) | (with_reducible refine G.trans ?_ (by assumption))))
    obtain ⟨c0a, c0b, c0c⟩ := tri_at (n := w.heap.size) (by simp) gb0_1
    have gw1 : G w w1 := by (repeat' (first | (with_reducible exact G.refl _) | (with_reducible assumption) | (with_reducible refine G.drewN ?_ _) | (with_reducible refine G.drew ?_) | (with_reducible refine G.alloc ?_ _) | (with_reducible refine G.setCell ?_ (by first | (with_reducible exact Nat.le_refl _) | (simp; done) | (simp; omega) | omega) _) | (with_reducible refine G.trans ?_ (by assumption))))
    dsimp only [rspP, rspE, Option.getD_some, Option.isSome_some, if_true]
    go_wp2_with fail
    refine (known_any _ (HT.out.later (by (repeat' (first | (with_reducible exact G.refl _) | (with_reducible assumption) | (with_reducible refine G.drewN ?_ _) | (with_reducible refine G.drew ?_) | (with_reducible refine G.alloc ?_ _) | (with_reducible refine G.setCell ?_ (by first | (with_reducible exact Nat.le_refl _) | (simp; done) | (simp; omega) | omega) _) | (with_reducible refine G.trans ?_ (by assumption))))))).mono ?_
    rintro e w2 ⟨rfl, hG2⟩
    clear c0a c0b c0c
    have gb1_2 : G (w1.alloc (.cells #[.int .i64 x, .int .i64 b, .int .i64 c] 23)) w2 := by (repeat' (first | (with_reducible exact G.refl _) | (with_reducible assumption) | (with_reducible refine G.drewN ?_ _) | (with_reducible refine G.drew ?_) | (with_reducible refine G.alloc ?_ _) | (with_reducible refine G.setCell ?_ (by first | (with_reducible exact Nat.le_refl _) | (simp; done) | (simp; omega) | omega) _) | (with_reducible refine G.trans ?_ (by assumption))))
    have gs2 : G w1 w2 := by (repeat' (first | (with_reducible exact G.refl _) | (with_reducible assumption) | (with_reducible refine G.drewN ?_ _) | (with_reducible refine G.drew ?_) | (with_reducible refine G.alloc ?_ _) | (with_reducible refine G.setCell ?_ (by first | (with_reducible exact Nat.le_refl _) | (simp; done) | (simp; omega) | omega) _) | (with_reducible refine G.trans ?_ (by assumption))))
    have gb0_2 := gb0_1.trans gs2
    clear gb0_1
    obtain ⟨c0a, c0b, c0c⟩ := tri_at (n := w.heap.size) (by simp) gb0_2
    obtain ⟨c1a, c1b, c1c⟩ := tri_at (n := w1.heap.size) (by simp) gb1_2
    have gw2 : G w w2 := gw1.trans gs2
    go_wp2_with fail
    refine (rExists_any s a o _).mono ?_
    rintro e w3 ⟨rfl, hG3⟩
    rw [decide_eq_true HO.out]
    clear c0a c0b c0c c1a c1b c1c
    have gs3 : G w2 w3 := by (repeat' (first | (with_reducible exact G.refl _) | (with_reducible assumption) | (with_reducible refine G.drewN ?_ _) | (with_reducible refine G.drew ?_) | (with_reducible refine G.alloc ?_ _) | (with_reducible refine G.setCell ?_ (by first | (with_reducible exact Nat.le_refl _) | (simp; done) | (simp; omega) | omega) _) | (with_reducible refine G.trans ?_ (by assumption))))
    have gb0_3 := gb0_2.trans gs3
    clear gb0_2
    have gb1_3 := gb1_2.trans gs3
    clear gb1_2
    obtain ⟨c0a, c0b, c0c⟩ := tri_at (n := w.heap.size) (by simp) gb0_3
    obtain ⟨c1a, c1b, c1c⟩ := tri_at (n := w1.heap.size) (by simp) gb1_3
    have gw3 : G w w3 := gw2.trans gs3
    go_wp2_with fail
    refine (rRespell_any s a o k _ HO.out).mono ?_
    rintro e w4 ⟨rfl, hG4⟩
    rw [HR.out]
    clear c0a c0b c0c c1a c1b c1c
    have gs4 : G w3 w4 := by (repeat' (first | (with_reducible exact G.refl _) | (with_reducible assumption) | (with_reducible refine G.drewN ?_ _) | (with_reducible refine G.drew ?_) | (with_reducible refine G.alloc ?_ _) | (with_reducible refine G.setCell ?_ (by first | (with_reducible exact Nat.le_refl _) | (simp; done) | (simp; omega) | omega) _) | (with_reducible refine G.trans ?_ (by assumption))))
    have gb0_4 := gb0_3.trans gs4
    clear gb0_3
    have gb1_4 := gb1_3.trans gs4
    clear gb1_3
    obtain ⟨c0a, c0b, c0c⟩ := tri_at (n := w.heap.size) (by simp) gb0_4
    obtain ⟨c1a, c1b, c1c⟩ := tri_at (n := w1.heap.size) (by simp) gb1_4
    have gw4 : G w w4 := gw3.trans gs4
    dsimp only [rspP, Option.getD_some, Option.isSome_some]
    go_wp2_with fail
    refine (Respell_any x b c (-k) _ (HT.out.later (by (repeat' (first | (with_reducible exact G.refl _) | (with_reducible assumption) | (with_reducible refine G.drewN ?_ _) | (with_reducible refine G.drew ?_) | (with_reducible refine G.alloc ?_ _) | (with_reducible refine G.setCell ?_ (by first | (with_reducible exact Nat.le_refl _) | (simp; done) | (simp; omega) | omega) _) | (with_reducible refine G.trans ?_ (by assumption)))))).hts).mono ?_
    rintro e w5 ⟨rfl, hG5⟩
    rw [HB.out]
    clear c0a c0b c0c c1a c1b c1c
    have gb2_5 : G (w4.alloc (.cells #[.int .i64 x, .int .i64 b, .int .i64 c] 23)) w5 := by (repeat' (first | (with_reducible exact G.refl _) | (with_reducible assumption) | (with_reducible refine G.drewN ?_ _) | (with_reducible refine G.drew ?_) | (with_reducible refine G.alloc ?_ _) | (with_reducible refine G.setCell ?_ (by first | (with_reducible exact Nat.le_refl _) | (simp; done) | (simp; omega) | omega) _) | (with_reducible refine G.trans ?_ (by assumption))))
    have gs5 : G w4 w5 := by (repeat' (first | (with_reducible exact G.refl _) | (with_reducible assumption) | (with_reducible refine G.drewN ?_ _) | (with_reducible refine G.drew ?_) | (with_reducible refine G.alloc ?_ _) | (with_reducible refine G.setCell ?_ (by first | (with_reducible exact Nat.le_refl _) | (simp; done) | (simp; omega) | omega) _) | (with_reducible refine G.trans ?_ (by assumption))))
    have gb0_5 := gb0_4.trans gs5
    clear gb0_4
    have gb1_5 := gb1_4.trans gs5
    clear gb1_4
    obtain ⟨c0a, c0b, c0c⟩ := tri_at (n := w.heap.size) (by simp) gb0_5
    obtain ⟨c1a, c1b, c1c⟩ := tri_at (n := w1.heap.size) (by simp) gb1_5
    obtain ⟨c2a, c2b, c2c⟩ := tri_at (n := w4.heap.size) (by simp) gb2_5
    have gw5 : G w w5 := gw4.trans gs5
    dsimp only [rspP, rspE, Option.getD_some, Option.isSome_some, if_true]
    go_wp2_with fail
    go_ret
    exact ⟨rfl, by (repeat' (first | (with_reducible exact G.refl _) | (with_reducible assumption) | (with_reducible refine G.drewN ?_ _) | (with_reducible refine G.drew ?_) | (with_reducible refine G.alloc ?_ _) | (with_reducible refine G.setCell ?_ (by first | (with_reducible exact Nat.le_refl _) | (simp; done) | (simp; omega) | omega) _) | (with_reducible refine G.trans ?_ (by assumption))))⟩

/-! ### the row and the card -/
open Go.ChangeShapes Go.WideShapes Go.ChangeAt Go.RowKit
set_option maxRecDepth 100000 in
theorem pitchRespells_lifted (os : Os) (started : os.Started) (H : Type) (enc : TypeId × Value → H) :
    ReturnsInHanded {} Tryd.checked os 6 .any (fun w args => (Rows.pitchRespellsSpec.pre enc Tryd.prog Tryd.f6 [] false w args ∧ laidMetH Tryd.prog laidL w) ∧ sizedMet enc Tryd.prog Tryd.f6 (OpenSpec.ofChange Rows.pitchRespellsSpec) false w args)
      (Rows.pitchRespellsSpec.post enc Tryd.prog Tryd.f6 false true false false) := by
  refine returnsInHanded_of_change_and (C := Tryd.checked) (X := fun w _ => laidMetH Tryd.prog laidL w) (fun _ _ _ hh h => h.of_heap hh) own started (by kernel_rfl) Tryd.func6
    (ChangeSpec.witness_shaped (enc := enc) (C := Tryd.checked) (os := os) (X := fun w _ => laidMetH Tryd.prog laidL w) false (World.laidAll Tryd.prog os laidL) #[.agg #[.int .i64 0, .int .i64 0, .int .i64 0], .int .i64 0] 8 (World.laidAll_os _ _ _) (shapedL os) (by kernel_rfl) (by kernel_rfl) (by kernel_rfl) (laid_met os _)) ?_
  intro W base args ds gs before hval0 hW _ _ hL _
  have hval : ∀ (j : Nat) t v, Tryd.f6.params[j]? = some t → args[j]? = some v → Value.okWide Tryd.prog W .any base t v := hval0
  have hW' := hW
  obtain ⟨p, q, hA0, hV, rfl, hfz, hnd⟩ := hW
  have hA : DataW.TrodAll enc Tryd.prog W 0 (fun _ => true) true Tryd.f6.params.toList args.toList ds p := hA0
  rw [Tryd.params6] at hA hval
  obtain ⟨v0, vs0, d0, ds0, p0, q0, hargs, rfl, rfl, h0, r0⟩ := trodAll_cons hA
  obtain ⟨v1, vs1, d1, ds1, p1, q1, rfl, rfl, rfl, h1, r1⟩ := trodAll_cons r0
  obtain ⟨rfl, rfl, rfl⟩ := trodAll_nil r1
  obtain rfl : args = #[v0, v1] := by cases args; simp_all
  obtain ⟨rfl, rfl⟩ := trodVars_none hV
  obtain ⟨a0, b0, c0, rfl, rfl, rfl, w0, u0, y0⟩ := open_pitch (hval 0 23 v0 rfl rfl) h0
  obtain ⟨al0, ah0⟩ := bounds_i64 w0
  obtain ⟨bl0, bh0⟩ := bounds_i64 u0
  obtain ⟨cl0, ch0⟩ := bounds_i64 y0
  obtain ⟨a1, rfl, rfl, rfl, w1⟩ := open_int Tryd.underlying3 (hval 1 3 v1 rfl rfl) h1
  obtain ⟨bl1, bh1⟩ := bounds_i64 w1
  clear hA0 hval0
  simp only [List.append_nil] at hW'
  refine (respells_walk a0 b0 c0 a1 W al0 ah0 bl0 bh0 cl0 ch0 bl1 bh1  (tab_of_laid hL)).mono fun e W' ⟨he, hg⟩ => ?_
  subst he
  exact ⟨_, rfl, _, _, _, [], [], [], hW', (trodAll_cons_mk (shut_bool Tryd.underlying4 _) trodAll_mk0), (trodAll_cons_mk (shut_pitch w0 u0 y0) (trodAll_cons_mk (shut_int Tryd.underlying3 w1) trodAll_mk0)), rfl, Below.frame hg _, fun h => by cases h⟩

theorem pitchRespells_holds : Rows.PitchRespellsSaid :=
  OpenClaim.holds_of_wide 6 Tryd.f6 rfl rfl rfl rfl rfl rfl rfl ⟨rfl, rfl, rfl, rfl, rfl⟩ rfl rfl rfl rfl rfl (by kernel_rfl) Tryd.func6 (by kernel_rfl)
    (of_decide_eq_true (by kernel_rfl)) (by unfold Func.isWrapper; first | (rw [if_pos (by decide +kernel)]; kernel_rfl) | (rw [if_neg (by decide +kernel)]; exact ⟨rfl, rfl⟩))
    (fun os started H enc _ => pitchRespells_lifted os started H enc)

theorem pitchRespells_card : Rows.PitchRespellsCardSaid :=
  Claim7.holds_tied_plain_at .later [] [.data, .data, .data, .data, .sentinel, .sentinel, .data, .data, .pinned] true (true, "d397597ffcaddd10c3aead99d9a1c2c62e92eb3a05e458798d7d01250ca48297") true
    pitchRespells_holds (fun _ h => by cases h) (by kernel_rfl) (fun _ h => by cases h) pitchRespells_row_tie rfl ⟨rfl, rfl⟩ (by kernel_rfl) rfl
    (fun f fn hf hfn => by
      obtain rfl : f = 6 := Option.some.inj ((show Tryd.prog.funcNamed "hemiola/hemiolalaw05.PitchRespells" = some 6 by kernel_rfl).symm.trans hf) |>.symm
      obtain rfl : fn = Tryd.f6 := (Option.some.inj (Tryd.func6.symm.trans hfn)).symm
      exact ⟨by kernel_rfl, fun j t ht => by
        rw [Tryd.params6] at ht
        have hm : t ∈ [23, 3] := by simpa using Array.mem_of_getElem? ht
        have hall : ([23, 3].all fun u => !Tryd.prog.wantsStandIn u) = true := by kernel_rfl
        exact (show Tryd.prog.wantsStandIn t = false by simpa using List.all_eq_true.1 hall t hm)⟩)
    (by kernel_rfl)
#print axioms pitchRespells_card

end Go.Proofs.YtfmjjbcmgkhgaaaDoor
