import Derived.Test.YthengbhokamhbaaDoorBest2
import Derived.Test.YthengbhokamhbaaDoorParse2
/-! The examples of the chapter hold. -/
namespace Go.Proofs.YthengbhokamhbaaDoor
open Go.RowKit QM QB QP

theorem best_known : IsBest 355 113 10 22 7 := by
  have B : Br 355 113 25 8 15 22 7 1 := ⟨by decide, by decide, by decide, by decide, by decide, by decide, by decide⟩
  exact best_high B (by decide) (by decide) (by decide) (by decide)
theorem txt_known : txt (-3) 1 = [45, 51, 47, 50] := by
  have a : Lib.decDigits 3 = [51] := by rw [Lib.decDigits]; rfl
  have b : Lib.decDigits 2 = [50] := by rw [Lib.decDigits]; rfl
  unfold txt Lib.itoa
  rw [if_pos (by decide), if_pos (by decide), if_neg (by decide)]
  show 45 :: Lib.decDigits 3 ++ 47 :: Lib.decDigits 2 = _
  rw [a, b]; rfl
theorem parse_known : parseOut [49, 47] = (0, 0, 2, 4) := by
  have q : quot [49, 47] = (1, 0, 2, 4) := by decide +kernel
  unfold parseOut; rw [q]; rfl

theorem cn_of6 : Cn (-3) 1 := ⟨by decide, by decide, by decide, by decide, by decide⟩
theorem cn_of355 : Cn 355 112 := ⟨by decide, by decide, by decide, by decide, by decide +kernel⟩

/-- a fraction's box, in later worlds -/
theorem box_later {w1 wz : World} {a b : Value} {t : TypeId} (h : G (w1.alloc (.cells #[a, b] t)) wz) : wz.cell? ⟨w1.heap.size, 0, none⟩ = some a ∧ wz.cell? ⟨w1.heap.size, 1, none⟩ = some b := by
  obtain ⟨x, y, _⟩ := one_cells h
  exact ⟨x, y⟩

theorem Num_new (N O : Int) (w : World) :
    Calls Tryd.prog 14 #[.agg #[.int .i64 N, .int .i64 O]] w fun e w' => e = .returned (.int .i64 N) ∧ G w w' :=
  (Num_any N O w).mono fun _ _ ⟨he, hw⟩ => ⟨he, hw ▸ (G.refl w).alloc _⟩

set_option maxHeartbeats 1600000 in
theorem known_any (w : World) (hT : Tab w) : Calls Tryd.prog 7 #[] w fun e w' => e = .returned (.bool true) ∧ G w w' := by
  have HT := Lib.hid hT
  clear hT
  go_enter Tryd.func7, Tryd.ntmps7
  go_wp2_with fail
  refine (Of_any 6 (-4) _ (by omega) (by omega) (by omega) (by omega)).mono ?_
  rintro e w1 ⟨rfl, hG1⟩
  rw [show oN 6 (-4) = -3 by decide +kernel, show oD 6 (-4) - 1 = 1 by decide +kernel, show oE 6 (-4) = 0 by decide +kernel]
  go_wp2_with fail
  refine (Of_any 355 113 _ (by omega) (by omega) (by omega) (by omega)).mono ?_
  rintro e w2 ⟨rfl, hG2⟩
  rw [show oN 355 113 = 355 by decide +kernel, show oD 355 113 - 1 = 112 by decide +kernel, show oE 355 113 = 0 by decide +kernel]
  go_wp2_with fail
  refine (Best_any 355 112 10 _ cn_of355 (by omega) (by omega)).mono ?_
  rintro e w3 ⟨p, q, hB, _, _, _, _, rfl, hG3⟩
  obtain ⟨rfl, rfl⟩ := best_unique hB best_known
  clear hB
  have g3 : G (w1.alloc (.cells #[.int .i64 (-3), .int .i64 1] 27)) w3 := by (repeat' (first | (with_reducible exact G.refl _) | (with_reducible assumption) | (with_reducible refine G.drewN ?_ _) | (with_reducible refine G.drew ?_) | (with_reducible refine G.alloc ?_ _) | (with_reducible refine G.setCell ?_ (by first | (with_reducible exact Nat.le_refl _) | (simp; done) | (simp; omega) | omega) _) | (with_reducible refine G.trans ?_ (by assumption))))
  go_wp2_with fail
  refine (Parse_any _ _ (by decide) (HT.out.later (by (repeat' (first | (with_reducible exact G.refl _) | (with_reducible assumption) | (with_reducible refine G.drewN ?_ _) | (with_reducible refine G.drew ?_) | (with_reducible refine G.alloc ?_ _) | (with_reducible refine G.setCell ?_ (by first | (with_reducible exact Nat.le_refl _) | (simp; done) | (simp; omega) | omega) _) | (with_reducible refine G.trans ?_ (by assumption))))))).mono ?_
  rintro e w4 ⟨he, hG4⟩
  unfold ParseIs at he
  rw [show (⟨#[49, 47]⟩ : ByteArray).data.toList = [49, 47] from rfl, parse_known] at he
  subst he
  have b4 : G (w3.alloc (.cells #[.int .i64 22, .int .i64 6] 27)) w4 := by (repeat' (first | (with_reducible exact G.refl _) | (with_reducible assumption) | (with_reducible refine G.drewN ?_ _) | (with_reducible refine G.drew ?_) | (with_reducible refine G.alloc ?_ _) | (with_reducible refine G.setCell ?_ (by first | (with_reducible exact Nat.le_refl _) | (simp; done) | (simp; omega) | omega) _) | (with_reducible refine G.trans ?_ (by assumption))))
  have g4 : G (w1.alloc (.cells #[.int .i64 (-3), .int .i64 1] 27)) w4 := by (repeat' (first | (with_reducible exact G.refl _) | (with_reducible assumption) | (with_reducible refine G.drewN ?_ _) | (with_reducible refine G.drew ?_) | (with_reducible refine G.alloc ?_ _) | (with_reducible refine G.setCell ?_ (by first | (with_reducible exact Nat.le_refl _) | (simp; done) | (simp; omega) | omega) _) | (with_reducible refine G.trans ?_ (by assumption))))
  have xz : ∀ Z : Obj, (w4.alloc Z).cell? ⟨w1.heap.size, 0, none⟩ = some (.int .i64 (-3)) ∧ (w4.alloc Z).cell? ⟨w1.heap.size, 1, none⟩ = some (.int .i64 1) := fun Z => box_later (g4.alloc Z)
  have y0 := fun Z => (xz Z).1
  have y1 := fun Z => (xz Z).2
  go_wp2_with fail
  refine (Num_new _ _ _).mono ?_
  rintro e w5 ⟨rfl, hG5⟩
  clear xz y0 y1
  have b5 : G (w3.alloc (.cells #[.int .i64 22, .int .i64 6] 27)) w5 := by (repeat' (first | (with_reducible exact G.refl _) | (with_reducible assumption) | (with_reducible refine G.drewN ?_ _) | (with_reducible refine G.drew ?_) | (with_reducible refine G.alloc ?_ _) | (with_reducible refine G.setCell ?_ (by first | (with_reducible exact Nat.le_refl _) | (simp; done) | (simp; omega) | omega) _) | (with_reducible refine G.trans ?_ (by assumption))))
  have g5 : G (w1.alloc (.cells #[.int .i64 (-3), .int .i64 1] 27)) w5 := by (repeat' (first | (with_reducible exact G.refl _) | (with_reducible assumption) | (with_reducible refine G.drewN ?_ _) | (with_reducible refine G.drew ?_) | (with_reducible refine G.alloc ?_ _) | (with_reducible refine G.setCell ?_ (by first | (with_reducible exact Nat.le_refl _) | (simp; done) | (simp; omega) | omega) _) | (with_reducible refine G.trans ?_ (by assumption))))
  have f5 : G w w5 := by (repeat' (first | (with_reducible exact G.refl _) | (with_reducible assumption) | (with_reducible refine G.drewN ?_ _) | (with_reducible refine G.drew ?_) | (with_reducible refine G.alloc ?_ _) | (with_reducible refine G.setCell ?_ (by first | (with_reducible exact Nat.le_refl _) | (simp; done) | (simp; omega) | omega) _) | (with_reducible refine G.trans ?_ (by assumption))))
  obtain ⟨x0, x1⟩ := box_later g5
  clear hG5 g4 b4
  go_wp2_with fail
  refine (Den_new _ _ _ (by omega) (by omega)).mono ?_
  rintro e w6 ⟨rfl, hG6⟩
  clear x0 x1
  have b6 : G (w3.alloc (.cells #[.int .i64 22, .int .i64 6] 27)) w6 := by (repeat' (first | (with_reducible exact G.refl _) | (with_reducible assumption) | (with_reducible refine G.drewN ?_ _) | (with_reducible refine G.drew ?_) | (with_reducible refine G.alloc ?_ _) | (with_reducible refine G.setCell ?_ (by first | (with_reducible exact Nat.le_refl _) | (simp; done) | (simp; omega) | omega) _) | (with_reducible refine G.trans ?_ (by assumption))))
  have g6 : G (w1.alloc (.cells #[.int .i64 (-3), .int .i64 1] 27)) w6 := by (repeat' (first | (with_reducible exact G.refl _) | (with_reducible assumption) | (with_reducible refine G.drewN ?_ _) | (with_reducible refine G.drew ?_) | (with_reducible refine G.alloc ?_ _) | (with_reducible refine G.setCell ?_ (by first | (with_reducible exact Nat.le_refl _) | (simp; done) | (simp; omega) | omega) _) | (with_reducible refine G.trans ?_ (by assumption))))
  have f6 : G w w6 := by (repeat' (first | (with_reducible exact G.refl _) | (with_reducible assumption) | (with_reducible refine G.drewN ?_ _) | (with_reducible refine G.drew ?_) | (with_reducible refine G.alloc ?_ _) | (with_reducible refine G.setCell ?_ (by first | (with_reducible exact Nat.le_refl _) | (simp; done) | (simp; omega) | omega) _) | (with_reducible refine G.trans ?_ (by assumption))))
  obtain ⟨x0, x1⟩ := box_later g6
  clear hG6 g5 b5
  clear f5
  go_wp2_with fail
  refine (Text_any _ _ _ cn_of6 (HT.out.later (by (repeat' (first | (with_reducible exact G.refl _) | (with_reducible assumption) | (with_reducible refine G.drewN ?_ _) | (with_reducible refine G.drew ?_) | (with_reducible refine G.alloc ?_ _) | (with_reducible refine G.setCell ?_ (by first | (with_reducible exact Nat.le_refl _) | (simp; done) | (simp; omega) | omega) _) | (with_reducible refine G.trans ?_ (by assumption))))))).mono ?_
  rintro e w7 ⟨rfl, hG7⟩
  clear x0 x1
  rw [show (⟨(txt (-3) 1).toArray⟩ : ByteArray) = ⟨#[45, 51, 47, 50]⟩ by rw [txt_known]]
  have b7 : G (w3.alloc (.cells #[.int .i64 22, .int .i64 6] 27)) w7 := by (repeat' (first | (with_reducible exact G.refl _) | (with_reducible assumption) | (with_reducible refine G.drewN ?_ _) | (with_reducible refine G.drew ?_) | (with_reducible refine G.alloc ?_ _) | (with_reducible refine G.setCell ?_ (by first | (with_reducible exact Nat.le_refl _) | (simp; done) | (simp; omega) | omega) _) | (with_reducible refine G.trans ?_ (by assumption))))
  have g7 : G (w1.alloc (.cells #[.int .i64 (-3), .int .i64 1] 27)) w7 := by (repeat' (first | (with_reducible exact G.refl _) | (with_reducible assumption) | (with_reducible refine G.drewN ?_ _) | (with_reducible refine G.drew ?_) | (with_reducible refine G.alloc ?_ _) | (with_reducible refine G.setCell ?_ (by first | (with_reducible exact Nat.le_refl _) | (simp; done) | (simp; omega) | omega) _) | (with_reducible refine G.trans ?_ (by assumption))))
  have f7 : G w w7 := by (repeat' (first | (with_reducible exact G.refl _) | (with_reducible assumption) | (with_reducible refine G.drewN ?_ _) | (with_reducible refine G.drew ?_) | (with_reducible refine G.alloc ?_ _) | (with_reducible refine G.setCell ?_ (by first | (with_reducible exact Nat.le_refl _) | (simp; done) | (simp; omega) | omega) _) | (with_reducible refine G.trans ?_ (by assumption))))
  obtain ⟨x0, x1⟩ := box_later g7
  clear hG7 g6 b6
  clear f6
  go_wp2_with fail
  refine (Floor_any _ _ _ cn_of6).mono ?_
  rintro e w8 ⟨rfl, hG8⟩
  clear x0 x1
  rw [show ((-3 : Int) / (1 + 1)) = -2 by decide]
  have b8 : G (w3.alloc (.cells #[.int .i64 22, .int .i64 6] 27)) w8 := by (repeat' (first | (with_reducible exact G.refl _) | (with_reducible assumption) | (with_reducible refine G.drewN ?_ _) | (with_reducible refine G.drew ?_) | (with_reducible refine G.alloc ?_ _) | (with_reducible refine G.setCell ?_ (by first | (with_reducible exact Nat.le_refl _) | (simp; done) | (simp; omega) | omega) _) | (with_reducible refine G.trans ?_ (by assumption))))
  have g8 : G (w1.alloc (.cells #[.int .i64 (-3), .int .i64 1] 27)) w8 := by (repeat' (first | (with_reducible exact G.refl _) | (with_reducible assumption) | (with_reducible refine G.drewN ?_ _) | (with_reducible refine G.drew ?_) | (with_reducible refine G.alloc ?_ _) | (with_reducible refine G.setCell ?_ (by first | (with_reducible exact Nat.le_refl _) | (simp; done) | (simp; omega) | omega) _) | (with_reducible refine G.trans ?_ (by assumption))))
  have f8 : G w w8 := by (repeat' (first | (with_reducible exact G.refl _) | (with_reducible assumption) | (with_reducible refine G.drewN ?_ _) | (with_reducible refine G.drew ?_) | (with_reducible refine G.alloc ?_ _) | (with_reducible refine G.setCell ?_ (by first | (with_reducible exact Nat.le_refl _) | (simp; done) | (simp; omega) | omega) _) | (with_reducible refine G.trans ?_ (by assumption))))
  obtain ⟨x0, x1⟩ := box_later g8
  clear hG8 g7 b7
  clear f7
  go_wp2_with fail
  refine (Ceil_any _ _ _ cn_of6).mono ?_
  rintro e w9 ⟨rfl, hG9⟩
  clear x0 x1
  rw [show (-(-(-3 : Int) / (1 + 1))) = -1 by decide]
  have b9 : G (w3.alloc (.cells #[.int .i64 22, .int .i64 6] 27)) w9 := by (repeat' (first | (with_reducible exact G.refl _) | (with_reducible assumption) | (with_reducible refine G.drewN ?_ _) | (with_reducible refine G.drew ?_) | (with_reducible refine G.alloc ?_ _) | (with_reducible refine G.setCell ?_ (by first | (with_reducible exact Nat.le_refl _) | (simp; done) | (simp; omega) | omega) _) | (with_reducible refine G.trans ?_ (by assumption))))
  have g9 : G (w1.alloc (.cells #[.int .i64 (-3), .int .i64 1] 27)) w9 := by (repeat' (first | (with_reducible exact G.refl _) | (with_reducible assumption) | (with_reducible refine G.drewN ?_ _) | (with_reducible refine G.drew ?_) | (with_reducible refine G.alloc ?_ _) | (with_reducible refine G.setCell ?_ (by first | (with_reducible exact Nat.le_refl _) | (simp; done) | (simp; omega) | omega) _) | (with_reducible refine G.trans ?_ (by assumption))))
  have f9 : G w w9 := by (repeat' (first | (with_reducible exact G.refl _) | (with_reducible assumption) | (with_reducible refine G.drewN ?_ _) | (with_reducible refine G.drew ?_) | (with_reducible refine G.alloc ?_ _) | (with_reducible refine G.setCell ?_ (by first | (with_reducible exact Nat.le_refl _) | (simp; done) | (simp; omega) | omega) _) | (with_reducible refine G.trans ?_ (by assumption))))
  obtain ⟨x0, x1⟩ := box_later g9
  clear hG9 g8 b8
  clear f8
  go_wp2_with fail
  refine (Round_any _ _ _ cn_of6).mono ?_
  rintro e w10 ⟨rfl, hG10⟩
  clear x0 x1
  rw [show ((2 * (-3 : Int) + (1 + 1)) / (2 * (1 + 1))) = -1 by decide]
  have b10 : G (w3.alloc (.cells #[.int .i64 22, .int .i64 6] 27)) w10 := by (repeat' (first | (with_reducible exact G.refl _) | (with_reducible assumption) | (with_reducible refine G.drewN ?_ _) | (with_reducible refine G.drew ?_) | (with_reducible refine G.alloc ?_ _) | (with_reducible refine G.setCell ?_ (by first | (with_reducible exact Nat.le_refl _) | (simp; done) | (simp; omega) | omega) _) | (with_reducible refine G.trans ?_ (by assumption))))
  have g10 : G (w1.alloc (.cells #[.int .i64 (-3), .int .i64 1] 27)) w10 := by (repeat' (first | (with_reducible exact G.refl _) | (with_reducible assumption) | (with_reducible refine G.drewN ?_ _) | (with_reducible refine G.drew ?_) | (with_reducible refine G.alloc ?_ _) | (with_reducible refine G.setCell ?_ (by first | (with_reducible exact Nat.le_refl _) | (simp; done) | (simp; omega) | omega) _) | (with_reducible refine G.trans ?_ (by assumption))))
  have f10 : G w w10 := by (repeat' (first | (with_reducible exact G.refl _) | (with_reducible assumption) | (with_reducible refine G.drewN ?_ _) | (with_reducible refine G.drew ?_) | (with_reducible refine G.alloc ?_ _) | (with_reducible refine G.setCell ?_ (by first | (with_reducible exact Nat.le_refl _) | (simp; done) | (simp; omega) | omega) _) | (with_reducible refine G.trans ?_ (by assumption))))
  obtain ⟨x0, x1⟩ := box_later g10
  clear hG10 g9 b9
  clear f9
  obtain ⟨v0, v1⟩ := box_later b10
  go_wp2_with fail
  refine (Num_new _ _ _).mono ?_
  rintro e w11 ⟨rfl, hG11⟩
  clear x0 x1 v0 v1
  have b11 : G (w3.alloc (.cells #[.int .i64 22, .int .i64 6] 27)) w11 := by (repeat' (first | (with_reducible exact G.refl _) | (with_reducible assumption) | (with_reducible refine G.drewN ?_ _) | (with_reducible refine G.drew ?_) | (with_reducible refine G.alloc ?_ _) | (with_reducible refine G.setCell ?_ (by first | (with_reducible exact Nat.le_refl _) | (simp; done) | (simp; omega) | omega) _) | (with_reducible refine G.trans ?_ (by assumption))))
  obtain ⟨v0, v1⟩ := box_later b11
  go_wp2_with fail
  refine (Den_new _ _ _ (by omega) (by omega)).mono ?_
  rintro e w12 ⟨rfl, hG12⟩
  go_wp2
  go_ret
  exact ⟨rfl, by (repeat' (first | (with_reducible exact G.refl _) | (with_reducible assumption) | (with_reducible refine G.drewN ?_ _) | (with_reducible refine G.drew ?_) | (with_reducible refine G.alloc ?_ _) | (with_reducible refine G.setCell ?_ (by first | (with_reducible exact Nat.le_refl _) | (simp; done) | (simp; omega) | omega) _) | (with_reducible refine G.trans ?_ (by assumption))))⟩
end Go.Proofs.YthengbhokamhbaaDoor
