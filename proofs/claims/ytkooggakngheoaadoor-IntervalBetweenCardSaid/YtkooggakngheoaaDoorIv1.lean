import Derived.Test.YtkooggakngheoaaDoorOps1
import Derived.Deep.LoopGhost
/-! Intervals: Check, opposite, valid, cmp.Or of errors. -/
namespace Go.Proofs.YtkooggakngheoaaDoor
open Go.RowKit
attribute [local go_sem] World.cell?_alloc_some

def Iv (s t : Int) : Prop := (-77 ≤ s ∧ s ≤ 77) ∧ (-140 ≤ t ∧ t ≤ 140)
instance (s t : Int) : Decidable (Iv s t) := by unfold Iv; infer_instance
def ie (s t : Int) : Int := if Iv s t then 0 else 2
theorem ie_ok {s t : Int} (h : Iv s t) : ie s t = 0 := if_pos h
theorem ie_bad {s t : Int} (h : ¬ Iv s t) : ie s t = 2 := if_neg h
theorem duo_later {w w1 : World} {a b : Value} {t : TypeId} (h : G (w.alloc (.cells #[a, b] t)) w1) :
    w1.cell? ⟨w.heap.size, 0, none⟩ = some a ∧ w1.cell? ⟨w.heap.size, 1, none⟩ = some b := by
  refine ⟨?_, ?_⟩ <;> (rw [h.cell (by simp)]; go_cell)

/-- two blocks of two cells, with the marks of the second -/
theorem duo2_later {w w1 : World} {a b x y : Value} {t t' : TypeId} (h : G ((w.alloc (.cells #[a, b] t)).alloc (.cells #[x, y] t')) w1) :
    (w1.cell? ⟨w.heap.size, 0, none⟩ = some a ∧ w1.cell? ⟨w.heap.size, 1, none⟩ = some b) ∧
    (w1.cell? ⟨w.heap.size + 1, 0, none⟩ = some x ∧ w1.cell? ⟨w.heap.size + 1, 1, none⟩ = some y) ∧
    w1.frozen? ⟨w.heap.size + 1, 0, none⟩ = false ∧ w1.frozen? ⟨w.heap.size + 1, 1, none⟩ = false := by
  refine ⟨⟨?_, ?_⟩, ⟨?_, ?_⟩, ?_, ?_⟩
  · rw [h.cell (by simp; omega)]; go_cell
  · rw [h.cell (by simp; omega)]; go_cell
  · rw [h.cell (by simp)]; go_cell
  · rw [h.cell (by simp)]; go_cell
  · rw [h.frozen (by simp)]; simp [go_sem]
  · rw [h.frozen (by simp)]; simp [go_sem]
set_option maxHeartbeats 1600000 in
theorem iCheck_any (s t : Int) (w : World) :
    Calls Tryd.prog 16 #[.agg #[.int .i64 s, .int .i64 t]] w fun e w' => e = .returned (.int .i64 (ie s t)) ∧ G w w' := by
  by_cases h : Iv s t
  · rw [ie_ok h]
    obtain ⟨⟨s0, s1⟩, t0, t1⟩ := h
    go_enter Tryd.func16, Tryd.ntmps16
    go_wp2_with fail
    go_ret
    exact ⟨rfl, by (repeat' (first | (with_reducible exact G.refl _) | (with_reducible assumption) | (with_reducible refine G.drewN ?_ _) | (with_reducible refine G.drew ?_) | (with_reducible refine G.alloc ?_ _) | (with_reducible refine G.setCell ?_ (by first | (with_reducible exact Nat.le_refl _) | (simp; done) | (simp; omega) | omega) _) | (with_reducible refine G.trans ?_ (by assumption))))⟩
  · rw [ie_bad h]
    unfold Iv at h
    by_cases c1 : s < -77
    · clear h
      go_enter Tryd.func16, Tryd.ntmps16
      go_wp2_with fail
      go_ret
      exact ⟨rfl, by (repeat' (first | (with_reducible exact G.refl _) | (with_reducible assumption) | (with_reducible refine G.drewN ?_ _) | (with_reducible refine G.drew ?_) | (with_reducible refine G.alloc ?_ _) | (with_reducible refine G.setCell ?_ (by first | (with_reducible exact Nat.le_refl _) | (simp; done) | (simp; omega) | omega) _) | (with_reducible refine G.trans ?_ (by assumption))))⟩
    by_cases c2 : 77 < s
    · clear h
      go_enter Tryd.func16, Tryd.ntmps16
      go_wp2_with fail
      go_ret
      exact ⟨rfl, by (repeat' (first | (with_reducible exact G.refl _) | (with_reducible assumption) | (with_reducible refine G.drewN ?_ _) | (with_reducible refine G.drew ?_) | (with_reducible refine G.alloc ?_ _) | (with_reducible refine G.setCell ?_ (by first | (with_reducible exact Nat.le_refl _) | (simp; done) | (simp; omega) | omega) _) | (with_reducible refine G.trans ?_ (by assumption))))⟩
    by_cases c3 : t < -140
    · clear h
      go_enter Tryd.func16, Tryd.ntmps16
      go_wp2_with fail
      go_ret
      exact ⟨rfl, by (repeat' (first | (with_reducible exact G.refl _) | (with_reducible assumption) | (with_reducible refine G.drewN ?_ _) | (with_reducible refine G.drew ?_) | (with_reducible refine G.alloc ?_ _) | (with_reducible refine G.setCell ?_ (by first | (with_reducible exact Nat.le_refl _) | (simp; done) | (simp; omega) | omega) _) | (with_reducible refine G.trans ?_ (by assumption))))⟩
    · have c4 : 140 < t := by omega
      clear h
      go_enter Tryd.func16, Tryd.ntmps16
      go_wp2_with fail
      go_ret
      exact ⟨rfl, by (repeat' (first | (with_reducible exact G.refl _) | (with_reducible assumption) | (with_reducible refine G.drewN ?_ _) | (with_reducible refine G.drew ?_) | (with_reducible refine G.alloc ?_ _) | (with_reducible refine G.setCell ?_ (by first | (with_reducible exact Nat.le_refl _) | (simp; done) | (simp; omega) | omega) _) | (with_reducible refine G.trans ?_ (by assumption))))⟩

set_option maxHeartbeats 800000 in
theorem OrE_any (x y : Int) (g : Nat) (w : World) (h0 : w.cell? ⟨g, 0, none⟩ = some (.int .i64 x)) (h1 : w.cell? ⟨g, 1, none⟩ = some (.int .i64 y)) :
    Calls Tryd.prog 35 #[.slice (some ⟨g, 0, none⟩) 2 2] w fun e w' => e = .returned (.int .i64 (if x ≠ 0 then x else y)) ∧ w = w' := by
  obtain ⟨R, hR⟩ : ∃ R, Hid (R = if x ≠ 0 then x else y) := ⟨_, rfl⟩
  rw [← hR.out]
  go_enter Tryd.func35, Tryd.ntmps35
  go_wp2_with fail
  go_loopg [8] 2 (fun n k wr => wr = w ∧ ((k = .int .i64 0 ∧ n = 2) ∨ (k = .int .i64 1 ∧ n = 1 ∧ x = 0) ∨ (k = .int .i64 2 ∧ n = 0 ∧ x = 0 ∧ y = 0)))
  case atStart => exact ⟨rfl, .inl ⟨rfl, rfl⟩⟩
  case round =>
    obtain ⟨rfl, ⟨rfl, rfl⟩ | ⟨rfl, rfl, rfl⟩ | ⟨rfl, rfl, rfl, rfl⟩⟩ := hrel
    · by_cases c : x = 0
      · subst c
        go_wp2_with fail
        go_roundg 1
        case measure => omega
        case rel => exact ⟨rfl, .inr (.inl ⟨rfl, rfl, by first | rfl | trivial⟩)⟩
      · have c' : (x == 0) = false := beq_false_of_ne c
        have HR := Lib.hid (show R = x by rw [hR.out, if_pos c])
        go_wp2_with fail
        go_ret
        exact ⟨ret_int HR.out.symm, rfl⟩
    · by_cases c : y = 0
      · subst c
        go_wp2_with fail
        go_roundg 0
        case measure => omega
        case rel => exact ⟨rfl, .inr (.inr ⟨rfl, rfl, by first | rfl | trivial, by first | rfl | trivial⟩)⟩
      · have c' : (y == 0) = false := beq_false_of_ne c
        have HR := Lib.hid (show R = y by rw [hR.out, if_neg (by simp)])
        go_wp2_with fail
        go_ret
        exact ⟨ret_int HR.out.symm, rfl⟩
    · have HR := Lib.hid (show R = 0 by rw [hR.out, if_neg (by simp)])
      go_wp2_with fail
      go_ret
      exact ⟨ret_int HR.out.symm, rfl⟩

set_option maxHeartbeats 800000 in
theorem opposite_any (s t s' t' : Int) (w : World) (hs : IntKind.i64.wrap (-s) = s') (ht : IntKind.i64.wrap (-t) = t') :
    Calls Tryd.prog 37 #[.agg #[.int .i64 s, .int .i64 t]] w fun e w' => e = .returned (.agg #[.int .i64 s', .int .i64 t']) ∧ G w w' := by
  go_enter Tryd.func37, Tryd.ntmps37
  go_wp2_with fail
  refine bodyPost_ret (v := .agg #[.int .i64 s', .int .i64 t']) (by simp [results, Tryd.results37, go_sem]) rfl ⟨rfl, ?_⟩
  (repeat' (first | (with_reducible exact G.refl _) | (with_reducible assumption) | (with_reducible refine G.drewN ?_ _) | (with_reducible refine G.drew ?_) | (with_reducible refine G.alloc ?_ _) | (with_reducible refine G.setCell ?_ (by first | (with_reducible exact Nat.le_refl _) | (simp; done) | (simp; omega) | omega) _) | (with_reducible refine G.trans ?_ (by assumption))))

def iy (s t x : Int) : Int := if Iv s t then x else 0
theorem iy_ok {s t x : Int} (h : Iv s t) : iy s t x = x := if_pos h
theorem iy_bad {s t x : Int} (h : ¬ Iv s t) : iy s t x = 0 := if_neg h
set_option maxHeartbeats 800000 in
theorem iValid_any (s t : Int) (w : World) :
    Calls Tryd.prog 36 #[.agg #[.int .i64 s, .int .i64 t]] w fun e w' => e = .returned (.tuple #[.agg #[.int .i64 (iy s t s), .int .i64 (iy s t t)], .int .i64 (ie s t)]) ∧ G w w' := by
  by_cases h : Iv s t
  · rw [ie_ok h, iy_ok h, iy_ok h]
    have HV := Lib.hid h
    clear h
    go_enter Tryd.func36, Tryd.ntmps36
    go_wp2_with fail
    refine (iCheck_any s t _).mono ?_
    rintro e w1 ⟨rfl, hG⟩
    rw [ie_ok HV.out]
    obtain ⟨⟨y0, y1⟩, ⟨z0, z1⟩, f0, f1⟩ := duo2_later hG
    go_wp2_with fail
    refine bodyPost_ret (v := .tuple #[.agg #[.int .i64 s, .int .i64 t], .int .i64 0]) (by simp [results, Tryd.results36, go_sem, z0, z1]) rfl ⟨rfl, ?_⟩
    (repeat' (first | (with_reducible exact G.refl _) | (with_reducible assumption) | (with_reducible refine G.drewN ?_ _) | (with_reducible refine G.drew ?_) | (with_reducible refine G.alloc ?_ _) | (with_reducible refine G.setCell ?_ (by first | (with_reducible exact Nat.le_refl _) | (simp; done) | (simp; omega) | omega) _) | (with_reducible refine G.trans ?_ (by assumption))))
  · rw [ie_bad h, iy_bad h, iy_bad h]
    have HV := Lib.hid h
    clear h
    go_enter Tryd.func36, Tryd.ntmps36
    go_wp2_with fail
    refine (iCheck_any s t _).mono ?_
    rintro e w1 ⟨rfl, hG⟩
    rw [ie_bad HV.out]
    obtain ⟨⟨y0, y1⟩, ⟨z0, z1⟩, f0, f1⟩ := duo2_later hG
    go_wp2_with fail
    refine bodyPost_ret (v := .tuple #[.agg #[.int .i64 0, .int .i64 0], .int .i64 2]) (by simp [results, Tryd.results36, go_sem, z0, z1]) rfl ⟨rfl, ?_⟩
    (repeat' (first | (with_reducible exact G.refl _) | (with_reducible assumption) | (with_reducible refine G.drewN ?_ _) | (with_reducible refine G.drew ?_) | (with_reducible refine G.alloc ?_ _) | (with_reducible refine G.setCell ?_ (by first | (with_reducible exact Nat.le_refl _) | (simp; done) | (simp; omega) | omega) _) | (with_reducible refine G.trans ?_ (by assumption))))
end Go.Proofs.YtkooggakngheoaaDoor
