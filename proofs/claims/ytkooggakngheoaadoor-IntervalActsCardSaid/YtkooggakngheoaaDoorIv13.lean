import Derived.Test.YtkooggakngheoaaDoorExMath
/-! Intervals: Transpose in all cases; Exact. -/
namespace Go.Proofs.YtkooggakngheoaaDoor
open Go.RowKit
attribute [local go_sem] World.cell?_alloc_some

set_option maxRecDepth 20000 in
set_option maxHeartbeats 3200000 in
theorem iTranspose_bad (s a o x y : Int) (w : World) (h : ¬ (Ok s a o ∧ Iv x y)) (hT : Hts w) :
    Calls Tryd.prog 25 #[.agg #[.int .i64 s, .int .i64 a, .int .i64 o], .agg #[.int .i64 x, .int .i64 y]] w fun e w' => e = .returned (.tuple #[.agg #[.int .i64 0, .int .i64 0, .int .i64 0], .int .i64 (trE s a o x y)]) ∧ G w w' := by
  have HT := Lib.hid hT
  obtain ⟨p, hp⟩ : ∃ z : Int, Hid (z = dia2 s a o) := ⟨_, rfl⟩
  obtain ⟨n, hn⟩ : ∃ z : Int, Hid (z = ey s a o (ht s a o)) := ⟨_, rfl⟩
  obtain ⟨i, hi⟩ : ∃ z : Int, Hid (z = er s a o) := ⟨_, rfl⟩
  obtain ⟨j, hj⟩ : ∃ z : Int, Hid (z = ie x y) := ⟨_, rfl⟩
  obtain ⟨E, hE⟩ : ∃ z : Int, Hid (z = trE s a o x y) := ⟨_, rfl⟩
  have hij : (if i ≠ 0 then i else j) = E ∧ (E == 0) = false := by
    rw [hi.out, hj.out, hE.out]
    unfold trE
    by_cases h1 : Ok s a o
    · have h2 : ¬ Iv x y := fun k => h ⟨h1, k⟩
      rw [er_ok h1, ie_bad h2, if_pos h1, if_neg h2]; exact ⟨or0 2, by decide⟩
    · rw [er_bad h1, if_neg h1]; exact ⟨or18 _, by decide⟩
  have HI := Lib.hid hij.1
  have hE0 := hij.2
  rw [← hE.out]
  have gb := G.refl (((w.alloc (.cells #[.int .i64 s, .int .i64 a, .int .i64 o] 41)).alloc (.cells #[.int .i64 x, .int .i64 y] 23)).alloc (.cells #[.int .i64 0, .int .i64 0, .int .i64 0] 41))
  have gw : G w (((w.alloc (.cells #[.int .i64 s, .int .i64 a, .int .i64 o] 41)).alloc (.cells #[.int .i64 x, .int .i64 y] 23)).alloc (.cells #[.int .i64 0, .int .i64 0, .int .i64 0] 41)) := by (repeat' (first | (with_reducible exact G.refl _) | (with_reducible refine G.drewN ?_ _) | (with_reducible refine G.drew ?_) | (with_reducible refine G.alloc ?_ _)))
  clear hT h hij
  go_enter Tryd.func25, Tryd.ntmps25
  go_wp2_with fail
  refine (iPlace_any s a o _ (HT.out.later (by (repeat' (first | (with_reducible exact G.refl _) | (with_reducible assumption) | (with_reducible refine G.drewN ?_ _) | (with_reducible refine G.drew ?_) | (with_reducible refine G.alloc ?_ _) | (with_reducible refine G.setCell ?_ (by first | (with_reducible exact Nat.le_refl _) | (simp; done) | (simp; omega) | omega) _) | (with_reducible refine G.trans ?_ (by assumption))))))).mono ?_
  rintro e w1 ⟨rfl, hG⟩
  rw [← hp.out, ← hn.out, ← hi.out]
  have gq := gb.trans (G.trans (by (repeat' (first | (with_reducible exact G.refl _) | (with_reducible refine G.drewN ?_ _) | (with_reducible refine G.drew ?_) | (with_reducible refine G.alloc ?_ _)))) hG)
  clear gb
  have gb := gq
  obtain ⟨⟨y0, y1, y2⟩, ⟨y3, y4⟩, ⟨y5, y6, y7⟩, f0, f1, f2⟩ := tdt_later gb
  go_wp2_with fail
  refine (iCheck_any x y _).mono ?_
  rintro e w2 ⟨rfl, hG2⟩
  rw [← hj.out]
  have gq2 := gb.trans (G.trans (by (repeat' (first | (with_reducible exact G.refl _) | (with_reducible refine G.drewN ?_ _) | (with_reducible refine G.drew ?_) | (with_reducible refine G.alloc ?_ _)))) hG2)
  clear gb gq y0 y1 y2 y3 y4 y5 y6 y7 f0 f1 f2
  obtain ⟨⟨y0, y1, y2⟩, ⟨y3, y4⟩, ⟨y5, y6, y7⟩, f0, f1, f2⟩ := tdt_later gq2
  have gq3 := G.alloc gq2 (.cells #[.int .i64 i, .int .i64 j] 24)
  go_wp2_with fail
  refine (OrE_any i j _ _ (by go_cell) (by go_cell)).mono ?_
  rintro e w3 ⟨rfl, rfl⟩
  rw [HI.out]
  clear y0 y1 y2 y3 y4 y5 y6 y7 f0 f1 f2
  obtain ⟨⟨y0, y1, y2⟩, ⟨y3, y4⟩, ⟨y5, y6, y7⟩, f0, f1, f2⟩ := tdt_later gq3
  go_wp2_with fail
  have gfin := gw.trans gq3
  refine bodyPost_ret (v := .tuple #[.agg #[.int .i64 0, .int .i64 0, .int .i64 0], .int .i64 E]) (by simp [results, Tryd.results25, go_sem, y5, y6, y7]) rfl ⟨rfl, ?_⟩
  (repeat' (first | (with_reducible exact G.refl _) | (with_reducible assumption) | (with_reducible refine G.drewN ?_ _) | (with_reducible refine G.drew ?_) | (with_reducible refine G.alloc ?_ _) | (with_reducible refine G.setCell ?_ (by first | (with_reducible exact Nat.le_refl _) | (simp; done) | (simp; omega) | omega) _) | (with_reducible refine G.trans ?_ (by assumption))))

set_option maxRecDepth 20000 in
set_option maxHeartbeats 3200000 in
theorem iTranspose_far (s a o x y : Int) (w : World) (h : Ok s a o) (hi : Iv x y) (hf : ¬ (0 ≤ ht s a o + y ∧ ht s a o + y ≤ 127)) (hT : Hts w) :
    Calls Tryd.prog 25 #[.agg #[.int .i64 s, .int .i64 a, .int .i64 o], .agg #[.int .i64 x, .int .i64 y]] w fun e w' => e = .returned (.tuple #[.agg #[.int .i64 0, .int .i64 0, .int .i64 0], .int .i64 18]) ∧ G w w' := by
  have HT := Lib.hid hT
  have HO := Lib.hid h
  have HI := Lib.hid hi
  obtain ⟨p, hp⟩ : ∃ z : Int, Hid (z = k2 s a o) := ⟨_, rfl⟩
  obtain ⟨n, hn⟩ : ∃ z : Int, Hid (z = ht s a o) := ⟨_, rfl⟩
  have pb : -7 ≤ p ∧ p ≤ 69 := by rw [hp.out]; exact ⟨(k_bd s a o).2.2.1, (k_bd s a o).2.2.2⟩
  have nb : 0 ≤ n ∧ n ≤ 127 := by rw [hn.out]; exact h.2
  obtain ⟨xb, yb⟩ := hi
  obtain ⟨m, hm⟩ : ∃ z : Int, Hid (z = n + y) := ⟨_, rfl⟩
  have q1 : IntKind.i64.wrap (n + y) = m := by rw [← hm.out]; exact IntWalk.i64_in m (by rw [hm.out]; omega)
  have HF := Lib.hid (show ¬ (0 ≤ m ∧ m ≤ 127) by rw [hm.out, hn.out]; exact hf)
  have gb := G.refl (((w.alloc (.cells #[.int .i64 s, .int .i64 a, .int .i64 o] 41)).alloc (.cells #[.int .i64 x, .int .i64 y] 23)).alloc (.cells #[.int .i64 0, .int .i64 0, .int .i64 0] 41))
  have gw : G w (((w.alloc (.cells #[.int .i64 s, .int .i64 a, .int .i64 o] 41)).alloc (.cells #[.int .i64 x, .int .i64 y] 23)).alloc (.cells #[.int .i64 0, .int .i64 0, .int .i64 0] 41)) := by (repeat' (first | (with_reducible exact G.refl _) | (with_reducible refine G.drewN ?_ _) | (with_reducible refine G.drew ?_) | (with_reducible refine G.alloc ?_ _)))
  clear hT h hf pb nb xb yb
  go_enter Tryd.func25, Tryd.ntmps25
  go_wp2_with fail
  refine (iPlace_any s a o _ (HT.out.later (by (repeat' (first | (with_reducible exact G.refl _) | (with_reducible assumption) | (with_reducible refine G.drewN ?_ _) | (with_reducible refine G.drew ?_) | (with_reducible refine G.alloc ?_ _) | (with_reducible refine G.setCell ?_ (by first | (with_reducible exact Nat.le_refl _) | (simp; done) | (simp; omega) | omega) _) | (with_reducible refine G.trans ?_ (by assumption))))))).mono ?_
  rintro e w1 ⟨rfl, hG⟩
  rw [er_ok HO.out, ey_ok HO.out, show dia2 s a o = p from hp.out.symm, ← hn.out]
  have gq := gb.trans (G.trans (by (repeat' (first | (with_reducible exact G.refl _) | (with_reducible refine G.drewN ?_ _) | (with_reducible refine G.drew ?_) | (with_reducible refine G.alloc ?_ _)))) hG)
  clear gb
  have gb := gq
  obtain ⟨⟨y0, y1, y2⟩, ⟨y3, y4⟩, ⟨y5, y6, y7⟩, f0, f1, f2⟩ := tdt_later gb
  go_wp2_with fail
  refine (iCheck_any x y _).mono ?_
  rintro e w2 ⟨rfl, hG2⟩
  rw [ie_ok HI.out]
  obtain ⟨z0, z1⟩ := duo_later hG2
  have gq2 := gb.trans (G.trans (by (repeat' (first | (with_reducible exact G.refl _) | (with_reducible refine G.drewN ?_ _) | (with_reducible refine G.drew ?_) | (with_reducible refine G.alloc ?_ _)))) hG2)
  clear gb gq y0 y1 y2 y3 y4 y5 y6 y7 f0 f1 f2
  obtain ⟨⟨y0, y1, y2⟩, ⟨y3, y4⟩, ⟨y5, y6, y7⟩, f0, f1, f2⟩ := tdt_later gq2
  go_wp2_with fail
  refine (OrE_any 0 0 _ _ (by go_cell) (by go_cell)).mono ?_
  rintro e w3 ⟨rfl, rfl⟩
  rw [or0]
  go_wp2_with fail
  refine (Enharmonics_out m _ HF.out).mono ?_
  rintro e w3 ⟨rfl, hG3⟩
  have gq3 := gq2.trans (G.trans (by (repeat' (first | (with_reducible exact G.refl _) | (with_reducible refine G.drewN ?_ _) | (with_reducible refine G.drew ?_) | (with_reducible refine G.alloc ?_ _)))) hG3)
  clear y0 y1 y2 y3 y4 y5 y6 y7 f0 f1 f2
  obtain ⟨⟨y0, y1, y2⟩, ⟨y3, y4⟩, ⟨y5, y6, y7⟩, f0, f1, f2⟩ := tdt_later gq3
  go_wp2_with fail
  have gfin := gw.trans gq3
  refine bodyPost_ret (v := .tuple #[.agg #[.int .i64 0, .int .i64 0, .int .i64 0], .int .i64 18]) (by simp [results, Tryd.results25, go_sem, y5, y6, y7]) rfl ⟨rfl, ?_⟩
  (repeat' (first | (with_reducible exact G.refl _) | (with_reducible assumption) | (with_reducible refine G.drewN ?_ _) | (with_reducible refine G.drew ?_) | (with_reducible refine G.alloc ?_ _) | (with_reducible refine G.setCell ?_ (by first | (with_reducible exact Nat.le_refl _) | (simp; done) | (simp; omega) | omega) _) | (with_reducible refine G.trans ?_ (by assumption))))

theorem iTranspose_any (s a o x y : Int) (w : World) (hT : Hts w) :
    Calls Tryd.prog 25 #[.agg #[.int .i64 s, .int .i64 a, .int .i64 o], .agg #[.int .i64 x, .int .i64 y]] w fun e w' => e = .returned (.tuple #[.agg #[.int .i64 (trR s a o x y).1, .int .i64 (trR s a o x y).2.1, .int .i64 (trR s a o x y).2.2], .int .i64 (trE s a o x y)]) ∧ G w w' := by
  by_cases h : Ok s a o ∧ Iv x y
  · by_cases k : 0 ≤ ht s a o + y ∧ ht s a o + y ≤ 127
    · have e := trE_of h.1 h.2 k.1 k.2
      unfold trR
      rw [if_pos e, e]
      exact iTranspose_ok s a o x y w h.1 h.2 k.1 k.2 (enh_ne k.1 k.2) hT
    · have e : trE s a o x y = 18 := by unfold trE; rw [if_pos h.1, if_pos h.2, if_neg k]
      unfold trR
      rw [if_neg (by rw [e]; decide), e]
      exact iTranspose_far s a o x y w h.1 h.2 k hT
  · have e : ¬ trE s a o x y = 0 := fun e => h ⟨(trE_ok e).1, (trE_ok e).2.1⟩
    unfold trR
    rw [if_neg e]
    exact iTranspose_bad s a o x y w h hT
end Go.Proofs.YtkooggakngheoaaDoor
