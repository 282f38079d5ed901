import Derived.Test.YtkooggakngheoaaDoorIv7
import Derived.Test.YtkooggakngheoaaDoorIv4
import Derived.Test.YtkooggakngheoaaDoorCmp
/-! Intervals: the closures of Transpose. -/
namespace Go.Proofs.YtkooggakngheoaaDoor
open Go.RowKit
attribute [local go_sem] World.cell?_alloc_some

/-- the distance of a pitch from a staff position -/
def dst (s a o q : Int) : Int := max (k2 s a o - q) (q - k2 s a o)
set_option maxRecDepth 20000 in
set_option maxHeartbeats 1600000 in
theorem distance_any (s a o p i : Int) (bf bi : Nat) (w : World) (hp : -7 ≤ p ∧ p ≤ 69) (hi : -77 ≤ i ∧ i ≤ 77) (hT : Hts w)
    (h0 : w.cell? ⟨bf, 0, none⟩ = some (.int .i64 p)) (h1 : w.cell? ⟨bi, 0, none⟩ = some (.int .i64 i)) :
    Calls Tryd.prog 42 #[.agg #[.int .i64 s, .int .i64 a, .int .i64 o], .pointer (some ⟨bf, 0, none⟩), .pointer (some ⟨bi, 0, none⟩)] w fun e w' => e = .returned (.int .i64 (dst s a o (p + i))) ∧ G w w' := by
  have HT := Lib.hid hT
  have kb := k_bd s a o
  have HK := Lib.hid (show (if Ok s a o then 7 * o + s else 0) = k2 s a o from rfl)
  obtain ⟨k, hk⟩ : ∃ z : Int, Hid (z = k2 s a o) := ⟨_, rfl⟩
  obtain ⟨z, hz⟩ : ∃ z : Int, Hid (z = er s a o) := ⟨_, rfl⟩
  rw [← hk.out] at kb
  obtain ⟨_, _, kb0, kb1⟩ := kb
  obtain ⟨R, hR⟩ : ∃ z : Int, Hid (z = dst s a o (p + i)) := ⟨_, rfl⟩
  have HR := Lib.hid (show R = max (k - p - i) (p + i - k) by rw [hR.out, hk.out]; unfold dst; omega)
  rw [← hR.out]
  obtain ⟨p0, p1⟩ := hp
  obtain ⟨i0, i1⟩ := hi
  have q1 := IntWalk.i64_in (k - p) (by omega)
  have q2 := IntWalk.i64_in (k - p - i) (by omega)
  have q3 := IntWalk.i64_in (p + i) (by omega)
  have q4 := IntWalk.i64_in (p + i - k) (by omega)
  clear hT
  go_enter Tryd.func42, Tryd.ntmps42
  go_wp2_with fail
  refine (Diatonic_any s a o _ (HT.out.later (by (repeat' (first | (with_reducible exact G.refl _) | (with_reducible assumption) | (with_reducible refine G.drewN ?_ _) | (with_reducible refine G.drew ?_) | (with_reducible refine G.alloc ?_ _) | (with_reducible refine G.setCell ?_ (by first | (with_reducible exact Nat.le_refl _) | (simp; done) | (simp; omega) | omega) _) | (with_reducible refine G.trans ?_ (by assumption))))))).mono ?_
  rintro e w1 ⟨rfl, hG⟩
  rw [HK.out, ← hk.out, ← hz.out]
  have hw : G w w1 := by (repeat' (first | (with_reducible exact G.refl _) | (with_reducible assumption) | (with_reducible refine G.drewN ?_ _) | (with_reducible refine G.drew ?_) | (with_reducible refine G.alloc ?_ _) | (with_reducible refine G.setCell ?_ (by first | (with_reducible exact Nat.le_refl _) | (simp; done) | (simp; omega) | omega) _) | (with_reducible refine G.trans ?_ (by assumption))))
  replace h0 := hw.at h0
  replace h1 := hw.at h1
  go_wp2_with fail
  go_ret
  exact ⟨ret_int (by rw [HR.out]), by (repeat' (first | (with_reducible exact G.refl _) | (with_reducible assumption) | (with_reducible refine G.drewN ?_ _) | (with_reducible refine G.drew ?_) | (with_reducible refine G.alloc ?_ _) | (with_reducible refine G.setCell ?_ (by first | (with_reducible exact Nat.le_refl _) | (simp; done) | (simp; omega) | omega) _) | (with_reducible refine G.trans ?_ (by assumption))))⟩

theorem six_later {w w1 : World} {a b c d e f : Value} {t t' : TypeId} (h : G ((w.alloc (.cells #[a, b, c] t)).alloc (.cells #[d, e, f] t')) w1) :
    w1.cell? ⟨w.heap.size, 0, none⟩ = some a ∧ w1.cell? ⟨w.heap.size, 1, none⟩ = some b ∧ w1.cell? ⟨w.heap.size, 2, none⟩ = some c ∧
    w1.cell? ⟨w.heap.size + 1, 0, none⟩ = some d ∧ w1.cell? ⟨w.heap.size + 1, 1, none⟩ = some e ∧ w1.cell? ⟨w.heap.size + 1, 2, none⟩ = some f := by
  refine ⟨?_, ?_, ?_, ?_, ?_, ?_⟩
  · rw [h.cell (by simp; omega)]; go_cell
  · rw [h.cell (by simp; omega)]; go_cell
  · rw [h.cell (by simp; omega)]; go_cell
  · rw [h.cell (by simp)]; go_cell
  · rw [h.cell (by simp)]; go_cell
  · rw [h.cell (by simp)]; go_cell
/-- which of two pitches is nearer to a staff position -/
def ner (s a o x b c q : Int) : Int := if cmi (dst s a o q) (dst x b c q) ≠ 0 then cmi (dst s a o q) (dst x b c q) else lex (k1 s a o) (k2 s a o) (k1 x b c) (k2 x b c)
set_option maxRecDepth 20000 in
set_option maxHeartbeats 3200000 in
theorem nearer_any (s a o x b c p i : Int) (bf bi bd : Nat) (w : World) (hp : -7 ≤ p ∧ p ≤ 69) (hi : -77 ≤ i ∧ i ≤ 77) (hT : Hts w)
    (h0 : w.cell? ⟨bf, 0, none⟩ = some (.int .i64 p)) (h1 : w.cell? ⟨bi, 0, none⟩ = some (.int .i64 i)) (hd : w.cell? ⟨bd, 0, none⟩ = some (.func (.func 42) #[] #[.pointer (some ⟨bf, 0, none⟩), .pointer (some ⟨bi, 0, none⟩)])) :
    Calls Tryd.prog 44 #[.agg #[.int .i64 s, .int .i64 a, .int .i64 o], .agg #[.int .i64 x, .int .i64 b, .int .i64 c], .pointer (some ⟨bd, 0, none⟩)] w fun e w' => e = .returned (.int .i64 (ner s a o x b c (p + i))) ∧ G w w' := by
  have HT := Lib.hid hT
  have HP := Lib.hid (And.intro hp hi)
  obtain ⟨A, hA⟩ : ∃ z : Int, Hid (z = dst s a o (p + i)) := ⟨_, rfl⟩
  obtain ⟨B, hB⟩ : ∃ z : Int, Hid (z = dst x b c (p + i)) := ⟨_, rfl⟩
  obtain ⟨u, hu⟩ : ∃ z : Int, Hid (z = cmi A B) := ⟨_, rfl⟩
  obtain ⟨v, hv⟩ : ∃ z : Int, Hid (z = lex (k1 s a o) (k2 s a o) (k1 x b c) (k2 x b c)) := ⟨_, rfl⟩
  obtain ⟨R, hR⟩ : ∃ z : Int, Hid (z = ner s a o x b c (p + i)) := ⟨_, rfl⟩
  have HR := Lib.hid (show (if u ≠ 0 then u else v) = R by rw [hR.out, hu.out, hv.out, hA.out, hB.out]; rfl)
  rw [← hR.out]
  have gw : G w ((w.alloc (.cells #[.int .i64 s, .int .i64 a, .int .i64 o] 41)).alloc (.cells #[.int .i64 x, .int .i64 b, .int .i64 c] 41)) := by (repeat' (first | (with_reducible exact G.refl _) | (with_reducible refine G.drewN ?_ _) | (with_reducible refine G.drew ?_) | (with_reducible refine G.alloc ?_ _)))
  replace hd := gw.at hd
  replace h0 := gw.at h0
  replace h1 := gw.at h1
  have H0 := Lib.hid (And.intro h0 h1)
  have gb : G ((w.alloc (.cells #[.int .i64 s, .int .i64 a, .int .i64 o] 41)).alloc (.cells #[.int .i64 x, .int .i64 b, .int .i64 c] 41)) ((w.alloc (.cells #[.int .i64 s, .int .i64 a, .int .i64 o] 41)).alloc (.cells #[.int .i64 x, .int .i64 b, .int .i64 c] 41)) := G.refl _
  obtain ⟨d0, d1, d2, d3, d4, d5⟩ := six_later gb
  have d6 := gb.at hd
  clear hT hp hi h0 h1
  go_enter Tryd.func44, Tryd.ntmps44
  go_wp2_with fail
  go_region_held3 (fun w' => w'.cell? ⟨w.heap.size, 0, none⟩ = some (.int .i64 s) ∧ w'.cell? ⟨w.heap.size, 1, none⟩ = some (.int .i64 a) ∧ w'.cell? ⟨w.heap.size, 2, none⟩ = some (.int .i64 o) ∧ w'.cell? ⟨w.heap.size + 1, 0, none⟩ = some (.int .i64 x) ∧ w'.cell? ⟨w.heap.size + 1, 1, none⟩ = some (.int .i64 b) ∧ w'.cell? ⟨w.heap.size + 1, 2, none⟩ = some (.int .i64 c) ∧ w'.cell? ⟨bd, 0, none⟩ = some (.func (.func 42) #[] #[.pointer (some ⟨bf, 0, none⟩), .pointer (some ⟨bi, 0, none⟩)]))
    (first | (with_reducible assumption) | ((try dsimp only); (repeat' (with_reducible apply And.intro)) <;> go_simp))
    (first | (go_at_call 42; refine (distance_any _ _ _ p i bf bi _ HP.out.1 HP.out.2 (HT.out.later (gw.trans (by (repeat' (first | (with_reducible exact G.refl _) | (with_reducible assumption) | (with_reducible refine G.drewN ?_ _) | (with_reducible refine G.drew ?_) | (with_reducible refine G.alloc ?_ _) | (with_reducible refine G.setCell ?_ (by first | (with_reducible exact Nat.le_refl _) | (simp; done) | (simp; omega) | omega) _) | (with_reducible refine G.trans ?_ (by assumption))))))) (G.at (by (repeat' (first | (with_reducible exact G.refl _) | (with_reducible assumption) | (with_reducible refine G.drewN ?_ _) | (with_reducible refine G.drew ?_) | (with_reducible refine G.alloc ?_ _) | (with_reducible refine G.setCell ?_ (by first | (with_reducible exact Nat.le_refl _) | (simp; done) | (simp; omega) | omega) _) | (with_reducible refine G.trans ?_ (by assumption))))) H0.out.1) (G.at (by (repeat' (first | (with_reducible exact G.refl _) | (with_reducible assumption) | (with_reducible refine G.drewN ?_ _) | (with_reducible refine G.drew ?_) | (with_reducible refine G.alloc ?_ _) | (with_reducible refine G.setCell ?_ (by first | (with_reducible exact Nat.le_refl _) | (simp; done) | (simp; omega) | omega) _) | (with_reducible refine G.trans ?_ (by assumption))))) H0.out.2)).mono ?_; rintro e w9 ⟨rfl, hG9⟩; (first | rw [← hA.out] | rw [← hB.out]); have gq := gb.trans (G.trans (by (repeat' (first | (with_reducible exact G.refl _) | (with_reducible refine G.drewN ?_ _) | (with_reducible refine G.drew ?_) | (with_reducible refine G.alloc ?_ _)))) hG9); clear gb; have gb := gq; obtain ⟨d0, d1, d2, d3, d4, d5⟩ := six_later gb; have d6 := gb.at hd) | (go_at_call 46; refine (Tryd.cmp_Compare_int _ _ _).mono ?_; rintro e w9 ⟨rfl, rfl⟩; rw [cmi_eq, ← hu.out]) | (go_at_call 47; refine (Compare_any _ _ _ _ _ _ _ (HT.out.later (gw.trans (by (repeat' (first | (with_reducible exact G.refl _) | (with_reducible assumption) | (with_reducible refine G.drewN ?_ _) | (with_reducible refine G.drew ?_) | (with_reducible refine G.alloc ?_ _) | (with_reducible refine G.setCell ?_ (by first | (with_reducible exact Nat.le_refl _) | (simp; done) | (simp; omega) | omega) _) | (with_reducible refine G.trans ?_ (by assumption)))))))).mono ?_; rintro e w9 ⟨rfl, hG9⟩; rw [← hv.out]; have gq := gb.trans (G.trans (by (repeat' (first | (with_reducible exact G.refl _) | (with_reducible refine G.drewN ?_ _) | (with_reducible refine G.drew ?_) | (with_reducible refine G.alloc ?_ _)))) hG9); clear gb; have gb := gq; obtain ⟨d0, d1, d2, d3, d4, d5⟩ := six_later gb; have d6 := gb.at hd) | (go_at_call 45; refine (Or_any u v _ _ (by go_cell) (by go_cell)).mono ?_; rintro e w9 ⟨rfl, rfl⟩; rw [HR.out]))
  all_goals
    go_wp2_with fail
    go_ret
    exact ⟨rfl, by (repeat' (first | (with_reducible exact G.refl _) | (with_reducible assumption) | (with_reducible refine G.drewN ?_ _) | (with_reducible refine G.drew ?_) | (with_reducible refine G.alloc ?_ _) | (with_reducible refine G.setCell ?_ (by first | (with_reducible exact Nat.le_refl _) | (simp; done) | (simp; omega) | omega) _) | (with_reducible refine G.trans ?_ (by assumption))))⟩
end Go.Proofs.YtkooggakngheoaaDoor
