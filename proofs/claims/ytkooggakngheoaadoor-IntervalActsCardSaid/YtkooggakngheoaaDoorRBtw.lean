import Derived.Test.YtkooggakngheoaaDoorLB
/-! The reference's Between; what Exact answers at a pitch that is there. -/
namespace Go.Proofs.YtkooggakngheoaaDoor
open Go.RowKit
attribute [local go_sem] World.cell?_alloc_some

theorem mem_all {n : Int} {t : P3} (h : OkQ t) (hn : hP t = n) : t ∈ allO n 11 := by
  obtain ⟨s, a, o⟩ := t
  obtain ⟨⟨⟨s0, s1⟩, ⟨a0, a1⟩, o0, o1⟩, n0, n1⟩ := h
  dsimp only at s0 s1 a0 a1 o0 o1
  have e : lt n s o = a := by rw [← hn]; show ht s a o - _ - _ = a; unfold ht; omega
  have hn' : ht s a o = n := hn
  unfold allO
  rw [List.mem_flatMap]
  refine ⟨(o + 1).toNat, List.mem_range.2 (by omega), ?_⟩
  rw [show (((o + 1).toNat : Nat) : Int) - 1 = o by omega]
  unfold allS
  rw [List.mem_flatMap]
  refine ⟨s.toNat, List.mem_range.2 (by omega), ?_⟩
  rw [show ((s.toNat : Nat) : Int) = s by omega, if_pos ⟨by rw [e]; exact ⟨a0, a1⟩, by dsimp only at n0 n1; omega⟩, e]
  simp
theorem exE_of {s a o x y : Int} {t : P3} (h : Ok s a o) (hi : Iv x y) (ht2 : OkQ t) (hh : hP t = ht s a o + y) (hk : kP t = k2 s a o + x) : exE s a o x y = 0 ∧ exR s a o x y = t := by
  have hb : 0 ≤ ht s a o + y ∧ ht s a o + y ≤ 127 := by rw [← hh]; exact ht2.2
  have e0 := trE_of h hi hb.1 hb.2
  have hm := mem_all ht2 hh
  rw [all_eq hb.1 hb.2] at hm
  have hf : exO s a o x y = some t := by
    unfold exO fndL
    cases hf : (enh (ht s a o + y) (alts 5)).find? (atQ (k2 s a o + x)) with
    | none =>
      have := List.find?_eq_none.1 hf t hm
      rw [kP_ok ht2] at hk
      exact absurd (decide_eq_true hk) this
    | some q =>
      have k := fnd_some hb.1 hb.2 hf
      have g := enh_gd hb.1 hb.2
      have hqm := List.mem_of_find?_eq_some hf
      rw [pw_inj g.2 hqm hm (k.2.2.2.trans hk.symm)]
  have e1 : exE s a o x y = 0 := by unfold exE; rw [if_pos e0, hf]; rfl
  refine ⟨e1, ?_⟩
  rw [show exR s a o x y = trP s a o x y from if_pos e1]
  exact (fnd_some hb.1 hb.2 hf).1
theorem exE_zero {s a o x y : Int} (h : exE s a o x y = 0) : Ok s a o ∧ Iv x y ∧ OkQ (exR s a o x y) ∧ hP (exR s a o x y) = ht s a o + y ∧ kP (exR s a o x y) = k2 s a o + x := by
  have e0 := exE_tr h
  have k := trE_ok e0
  have p := trP_ok e0
  have q := (exE_iff e0).1 h
  rw [show exR s a o x y = trP s a o x y from if_pos h]
  exact ⟨k.1, k.2.1, p.1, p.2, q⟩

set_option maxHeartbeats 3200000 in
theorem rBetween_any (s a o x b c : Int) (w : World) (h : Inr s a o) (h2 : Inr x b c) :
    Calls Tryd.prog 23 #[.agg #[.int .i64 s, .int .i64 a, .int .i64 o], .agg #[.int .i64 x, .int .i64 b, .int .i64 c]] w fun e w' => e = .returned (.agg #[.int .i64 (7 * c + x - (7 * o + s)), .int .i64 (ht x b c - ht s a o)]) ∧ G w w' := by
  have I1 : Hid (Inr s a o) := Lib.hid h
  have I2 : Hid (Inr x b c) := Lib.hid h2
  have b1 := ht_bd h
  have b2 := ht_bd h2
  obtain ⟨⟨_, _⟩, _, _, _⟩ := h
  obtain ⟨⟨_, _⟩, _, _, _⟩ := h2
  obtain ⟨p, hp⟩ : ∃ z : Int, Hid (z = 7 * o + s) := ⟨_, rfl⟩
  obtain ⟨q, hq⟩ : ∃ z : Int, Hid (z = 7 * c + x) := ⟨_, rfl⟩
  obtain ⟨n, hn⟩ : ∃ z : Int, Hid (z = ht s a o) := ⟨_, rfl⟩
  obtain ⟨m, hm⟩ : ∃ z : Int, Hid (z = ht x b c) := ⟨_, rfl⟩
  rw [← hp.out, ← hq.out, ← hn.out, ← hm.out]
  rw [← hn.out] at b1
  rw [← hm.out] at b2
  have q1 := IntWalk.i64_in (q - p) (by rw [hp.out, hq.out]; omega)
  have q2 := IntWalk.i64_in (m - n) (by omega)
  have gb := G.refl (((w.alloc (.cells #[.int .i64 s, .int .i64 a, .int .i64 o] 41)).alloc (.cells #[.int .i64 x, .int .i64 b, .int .i64 c] 41)).alloc (.cells #[.int .i64 0, .int .i64 0] 23))
  have gw : G w (((w.alloc (.cells #[.int .i64 s, .int .i64 a, .int .i64 o] 41)).alloc (.cells #[.int .i64 x, .int .i64 b, .int .i64 c] 41)).alloc (.cells #[.int .i64 0, .int .i64 0] 23)) := by (repeat' (first | (with_reducible exact G.refl _) | (with_reducible refine G.drewN ?_ _) | (with_reducible refine G.drew ?_) | (with_reducible refine G.alloc ?_ _)))
  go_enter Tryd.func23, Tryd.ntmps23
  go_wp2_with fail
  go_region_held3 (fun w' => w'.cell? ⟨w.heap.size, 0, none⟩ = some (.int .i64 s) ∧ w'.cell? ⟨w.heap.size, 1, none⟩ = some (.int .i64 a) ∧ w'.cell? ⟨w.heap.size, 2, none⟩ = some (.int .i64 o) ∧ w'.cell? ⟨w.heap.size + 1, 0, none⟩ = some (.int .i64 x) ∧ w'.cell? ⟨w.heap.size + 1, 1, none⟩ = some (.int .i64 b) ∧ w'.cell? ⟨w.heap.size + 1, 2, none⟩ = some (.int .i64 c))
    (first | (with_reducible assumption) | ((try dsimp only); (repeat' (with_reducible apply And.intro)) <;> go_simp))
    (first
      | (go_at_call 40; ((with_reducible refine (rPosition_any s a o _ I1.out).mono ?_); rintro e w9 ⟨rfl, hG9⟩; rw [← hp.out]; have gq := gb.trans (G.trans (by (repeat' (first | (with_reducible exact G.refl _) | (with_reducible refine G.drewN ?_ _) | (with_reducible refine G.drew ?_) | (with_reducible refine G.alloc ?_ _)))) hG9); clear gb; have gb := gq; obtain ⟨⟨y0, y1, y2⟩, ⟨y3, y4, y5⟩, ⟨y6, y7⟩, f0, f1⟩ := ttd_later gb))
      | (go_at_call 40; ((with_reducible refine (rPosition_any x b c _ I2.out).mono ?_); rintro e w9 ⟨rfl, hG9⟩; rw [← hq.out]; have gq := gb.trans (G.trans (by (repeat' (first | (with_reducible exact G.refl _) | (with_reducible refine G.drewN ?_ _) | (with_reducible refine G.drew ?_) | (with_reducible refine G.alloc ?_ _)))) hG9); clear gb; have gb := gq; obtain ⟨⟨y0, y1, y2⟩, ⟨y3, y4, y5⟩, ⟨y6, y7⟩, f0, f1⟩ := ttd_later gb))
      | (go_at_call 27; ((with_reducible refine (rNumber_any s a o _ I1.out).mono ?_); rintro e w9 ⟨rfl, hG9⟩; rw [← hn.out]; have gq := gb.trans (G.trans (by (repeat' (first | (with_reducible exact G.refl _) | (with_reducible refine G.drewN ?_ _) | (with_reducible refine G.drew ?_) | (with_reducible refine G.alloc ?_ _)))) hG9); clear gb; have gb := gq; obtain ⟨⟨y0, y1, y2⟩, ⟨y3, y4, y5⟩, ⟨y6, y7⟩, f0, f1⟩ := ttd_later gb))
      | (go_at_call 27; ((with_reducible refine (rNumber_any x b c _ I2.out).mono ?_); rintro e w9 ⟨rfl, hG9⟩; rw [← hm.out]; have gq := gb.trans (G.trans (by (repeat' (first | (with_reducible exact G.refl _) | (with_reducible refine G.drewN ?_ _) | (with_reducible refine G.drew ?_) | (with_reducible refine G.alloc ?_ _)))) hG9); clear gb; have gb := gq; obtain ⟨⟨y0, y1, y2⟩, ⟨y3, y4, y5⟩, ⟨y6, y7⟩, f0, f1⟩ := ttd_later gb)))
  all_goals
    go_wp2_with fail
    refine bodyPost_ret (v := .agg #[.int .i64 (q - p), .int .i64 (m - n)]) (by simp [results, Tryd.results23, go_sem, y6, y7]) rfl ⟨rfl, ?_⟩
    have gfin := gw.trans gb
    (repeat' (first | (with_reducible exact G.refl _) | (with_reducible assumption) | (with_reducible refine G.drewN ?_ _) | (with_reducible refine G.drew ?_) | (with_reducible refine G.alloc ?_ _) | (with_reducible refine G.setCell ?_ (by first | (with_reducible exact Nat.le_refl _) | (simp; done) | (simp; omega) | omega) _) | (with_reducible refine G.trans ?_ (by assumption))))
end Go.Proofs.YtkooggakngheoaaDoor
