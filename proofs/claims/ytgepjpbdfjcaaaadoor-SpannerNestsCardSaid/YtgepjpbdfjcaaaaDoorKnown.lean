import Derived.Test.YtgepjpbdfjcaaaaDoorS10
/-! Spanners: names of kinds; the example of the chapter. -/
namespace Go.Proofs.YtgepjpbdfjcaaaaDoor
open Go.RowKit
attribute [local go_sem] World.cell?_alloc_some

/-- the table of names -/
def Tab (w : World) : Prop := w.cell? ⟨0, 0, none⟩ = some (.string ⟨#[]⟩) ∧ w.cell? ⟨0, 1, none⟩ = some (.string ⟨#[115, 108, 117, 114]⟩) ∧ w.cell? ⟨0, 2, none⟩ = some (.string ⟨#[99, 114, 101, 115, 99, 101, 110, 100, 111]⟩) ∧ w.cell? ⟨0, 3, none⟩ = some (.string ⟨#[100, 105, 109, 105, 110, 117, 101, 110, 100, 111]⟩) ∧ w.cell? ⟨0, 4, none⟩ = some (.string ⟨#[56, 118, 97]⟩) ∧ w.cell? ⟨0, 5, none⟩ = some (.string ⟨#[56, 118, 98]⟩) ∧ w.cell? ⟨0, 6, none⟩ = some (.string ⟨#[112, 101, 100, 97, 108]⟩) ∧ w.cell? ⟨0, 7, none⟩ = some (.string ⟨#[116, 114, 105, 108, 108]⟩)
theorem Tab.later {w w' : World} (h : Tab w) (g : G w w') : Tab w' := ⟨g.at h.1, g.at h.2.1, g.at h.2.2.1, g.at h.2.2.2.1, g.at h.2.2.2.2.1, g.at h.2.2.2.2.2.1, g.at h.2.2.2.2.2.2.1, g.at h.2.2.2.2.2.2.2⟩
def nms : List (List UInt8) := [[], [115, 108, 117, 114], [99, 114, 101, 115, 99, 101, 110, 100, 111], [100, 105, 109, 105, 110, 117, 101, 110, 100, 111], [56, 118, 97], [56, 118, 98], [112, 101, 100, 97, 108], [116, 114, 105, 108, 108]]
def nmS (k : Int) : ByteArray := ⟨(nms.getD k.toNat []).toArray⟩
def nmK (k : Int) : ByteArray := if Kd k then nmS k else ⟨#[]⟩
theorem sName_any (k : Int) (w : World) (hT : Tab w) : Calls Tryd.prog 37 #[.int .i64 k] w fun e w' => e = .returned (.string (nmK k)) ∧ w = w' := by
  obtain ⟨t0, t1, t2, t3, t4, t5, t6, t7⟩ := hT
  by_cases hk : Kd k
  · have hk' := hk
    unfold Kd at hk'
    rcases (by omega : k = 1 ∨ k = 2 ∨ k = 3 ∨ k = 4 ∨ k = 5 ∨ k = 6 ∨ k = 7) with rfl | rfl | rfl | rfl | rfl | rfl | rfl <;>
    · clear hk'
      have HK := Lib.hid hk
      clear hk
      go_enter Tryd.func37, Tryd.ntmps37
      go_wp2_with fail
      refine (isKind_any _ _).mono ?_
      rintro e w1 ⟨rfl, rfl⟩
      rw [decide_eq_true HK.out]
      go_wp2_with fail
      go_ret
      exact ⟨by rfl, rfl⟩
  · have HK := Lib.hid hk
    rw [show nmK k = ⟨#[]⟩ from if_neg hk]
    clear hk
    go_enter Tryd.func37, Tryd.ntmps37
    go_wp2_with fail
    refine (isKind_any _ _).mono ?_
    rintro e w1 ⟨rfl, rfl⟩
    rw [decide_eq_false HK.out]
    go_wp2_with fail
    go_ret
    exact ⟨by first | rfl | simp, rfl⟩
def ex2 : List Sp := [⟨1, ⟨0, 0, 0, 0⟩, ⟨2, 0, 0, 0⟩⟩, ⟨1, ⟨2, 0, 0, 0⟩, ⟨3, 0, 0, 0⟩⟩]
def ex3 : List Sp := [⟨1, ⟨0, 0, 0, 0⟩, ⟨2, 0, 0, 0⟩⟩, ⟨1, ⟨2, 0, 0, 0⟩, ⟨3, 0, 0, 0⟩⟩, ⟨1, ⟨1, 0, 0, 0⟩, ⟨3, 0, 0, 0⟩⟩]
theorem ex2_ck : ckS ex2 = (-1, 0) := by decide +kernel
theorem ex3_ck : ckS ex3 = (2, 26) := by decide +kernel
theorem ex2_at (w w2 : World) (t : TypeId) (B : Nat) (hB : w.heap.size = B) (g : G (w.alloc (.cells #[.int .i64 1, .int .i64 0, .int .i64 0, .int .i64 0, .int .i64 0, .int .i64 2, .int .i64 0, .int .i64 0, .int .i64 0, .int .i64 1, .int .i64 2, .int .i64 0, .int .i64 0, .int .i64 0, .int .i64 3, .int .i64 0, .int .i64 0, .int .i64 0] t)) w2) : SpsAt w2 (some ⟨B, 0, none⟩) ex2 := by
  subst hB
  refine SpsAt.later (.inr ⟨w.heap.size, 0, rfl, fun i n hn => ?_⟩) g
  match i, hn with
  | 0, hn => obtain rfl := Option.some.inj hn; exact ⟨by go_cell, by go_cell, by go_cell, by go_cell, by go_cell, by go_cell, by go_cell, by go_cell, by go_cell⟩
  | 1, hn => obtain rfl := Option.some.inj hn; exact ⟨by go_cell, by go_cell, by go_cell, by go_cell, by go_cell, by go_cell, by go_cell, by go_cell, by go_cell⟩
  | k + 2, hn => cases hn
theorem ex3_at (w w2 : World) (t : TypeId) (B : Nat) (hB : w.heap.size = B) (g : G (w.alloc (.cells #[.int .i64 1, .int .i64 0, .int .i64 0, .int .i64 0, .int .i64 0, .int .i64 2, .int .i64 0, .int .i64 0, .int .i64 0, .int .i64 1, .int .i64 2, .int .i64 0, .int .i64 0, .int .i64 0, .int .i64 3, .int .i64 0, .int .i64 0, .int .i64 0, .int .i64 1, .int .i64 1, .int .i64 0, .int .i64 0, .int .i64 0, .int .i64 3, .int .i64 0, .int .i64 0, .int .i64 0] t)) w2) : SpsAt w2 (some ⟨B, 0, none⟩) ex3 := by
  subst hB
  refine SpsAt.later (.inr ⟨w.heap.size, 0, rfl, fun i n hn => ?_⟩) g
  match i, hn with
  | 0, hn => obtain rfl := Option.some.inj hn; exact ⟨by go_cell, by go_cell, by go_cell, by go_cell, by go_cell, by go_cell, by go_cell, by go_cell, by go_cell⟩
  | 1, hn => obtain rfl := Option.some.inj hn; exact ⟨by go_cell, by go_cell, by go_cell, by go_cell, by go_cell, by go_cell, by go_cell, by go_cell, by go_cell⟩
  | 2, hn => obtain rfl := Option.some.inj hn; exact ⟨by go_cell, by go_cell, by go_cell, by go_cell, by go_cell, by go_cell, by go_cell, by go_cell, by go_cell⟩
  | k + 3, hn => cases hn
theorem n27_later {w w2 : World} {t t' t'' : TypeId} (g : G (((w.alloc (.cells #[.int .i64 1, .int .i64 0, .int .i64 0, .int .i64 0, .int .i64 0, .int .i64 2, .int .i64 0, .int .i64 0, .int .i64 0] t)).alloc (.cells #[.int .i64 1, .int .i64 2, .int .i64 0, .int .i64 0, .int .i64 0, .int .i64 3, .int .i64 0, .int .i64 0, .int .i64 0] t')).alloc (.cells #[.int .i64 1, .int .i64 1, .int .i64 0, .int .i64 0, .int .i64 0, .int .i64 3, .int .i64 0, .int .i64 0, .int .i64 0] t'')) w2) : B9 w2 w.heap.size ⟨1, ⟨0, 0, 0, 0⟩, ⟨2, 0, 0, 0⟩⟩ ∧ B9 w2 (w.heap.size + 1) ⟨1, ⟨2, 0, 0, 0⟩, ⟨3, 0, 0, 0⟩⟩ ∧ B9 w2 (w.heap.size + 2) ⟨1, ⟨1, 0, 0, 0⟩, ⟨3, 0, 0, 0⟩⟩ := by
  refine ⟨⟨?_, ?_, ?_, ?_, ?_, ?_, ?_, ?_, ?_⟩, ⟨?_, ?_, ?_, ?_, ?_, ?_, ?_, ?_, ?_⟩, ⟨?_, ?_, ?_, ?_, ?_, ?_, ?_, ?_, ?_⟩⟩ <;> (rw [g.cell (by simp; try omega)]; go_cell)
set_option maxRecDepth 100000 in
set_option maxHeartbeats 6400000 in
theorem known_any (w : World) (hT : Tab w) : Calls Tryd.prog 13 #[] w fun e w' => e = .returned (.bool true) ∧ G w w' := by
  have HT := Lib.hid hT
  clear hT
  go_enter Tryd.func13, Tryd.ntmps13
  go_wp2_with fail
  refine (sCheck_any _ ex2 2 2 _ rfl (by decide) (by decide) (ex2_at (((w.alloc (.cells #[.int .i64 1, .int .i64 0, .int .i64 0, .int .i64 0, .int .i64 0, .int .i64 2, .int .i64 0, .int .i64 0, .int .i64 0] 31)).alloc (.cells #[.int .i64 1, .int .i64 2, .int .i64 0, .int .i64 0, .int .i64 0, .int .i64 3, .int .i64 0, .int .i64 0, .int .i64 0] 31)).alloc (.cells #[.int .i64 1, .int .i64 1, .int .i64 0, .int .i64 0, .int .i64 0, .int .i64 3, .int .i64 0, .int .i64 0, .int .i64 0] 31)) _ _ _ (by simp) (by (repeat' (first | (with_reducible exact G.refl _) | (with_reducible assumption) | (with_reducible refine G.drewN ?_ _) | (with_reducible refine G.drew ?_) | (with_reducible refine G.alloc ?_ _) | (with_reducible refine G.setCell ?_ (by first | (with_reducible exact Nat.le_refl _) | (simp; done) | (simp; omega) | omega) _) | (with_reducible refine G.trans ?_ (by assumption))))))).mono ?_
  rintro e w1 ⟨rfl, hG⟩
  rw [ex2_ck]
  obtain ⟨⟨a0, a1, a2, a3, a4, a5, a6, a7, a8⟩, ⟨b0, b1, b2, b3, b4, b5, b6, b7, b8⟩, ⟨c0, c1, c2, c3, c4, c5, c6, c7, c8⟩⟩ := n27_later (G.trans (by (repeat' (first | (with_reducible exact G.refl _) | (with_reducible refine G.drewN ?_ _) | (with_reducible refine G.drew ?_) | (with_reducible refine G.alloc ?_ _)))) hG)
  dsimp only at a0 a1 a2 a3 a4 a5 a6 a7 a8 b0 b1 b2 b3 b4 b5 b6 b7 b8 c0 c1 c2 c3 c4 c5 c6 c7 c8
  have g1 : G w w1 := G.trans (by (repeat' (first | (with_reducible exact G.refl _) | (with_reducible refine G.drewN ?_ _) | (with_reducible refine G.drew ?_) | (with_reducible refine G.alloc ?_ _)))) hG
  go_wp2_with fail
  refine (sCheck_any _ ex3 3 3 _ rfl (by decide) (by decide) (ex3_at w1 _ _ _ rfl (by (repeat' (first | (with_reducible exact G.refl _) | (with_reducible assumption) | (with_reducible refine G.drewN ?_ _) | (with_reducible refine G.drew ?_) | (with_reducible refine G.alloc ?_ _) | (with_reducible refine G.setCell ?_ (by first | (with_reducible exact Nat.le_refl _) | (simp; done) | (simp; omega) | omega) _) | (with_reducible refine G.trans ?_ (by assumption))))))).mono ?_
  rintro e w2 ⟨rfl, hG2⟩
  rw [ex3_ck]
  have g2 : G w w2 := g1.trans (G.trans (by (repeat' (first | (with_reducible exact G.refl _) | (with_reducible refine G.drewN ?_ _) | (with_reducible refine G.drew ?_) | (with_reducible refine G.alloc ?_ _)))) hG2)
  go_wp2_with fail
  refine (sName_any _ _ (HT.out.later g2)).mono ?_
  rintro e w3 ⟨rfl, rfl⟩
  rw [show nmK 4 = ⟨#[56, 118, 97]⟩ from rfl]
  go_wp2_with fail
  go_ret
  exact ⟨by first | rfl | simp, by (repeat' (first | (with_reducible exact G.refl _) | (with_reducible assumption) | (with_reducible refine G.drewN ?_ _) | (with_reducible refine G.drew ?_) | (with_reducible refine G.alloc ?_ _) | (with_reducible refine G.setCell ?_ (by first | (with_reducible exact Nat.le_refl _) | (simp; done) | (simp; omega) | omega) _) | (with_reducible refine G.trans ?_ (by assumption))))⟩
end Go.Proofs.YtgepjpbdfjcaaaaDoor
