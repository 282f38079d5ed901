import Derived.Test.YthengbhokamhbaaDoorBest
/-! Best of the program: the nearest fraction with a small denominator. -/
namespace Go.Proofs.YthengbhokamhbaaDoor
open Go.RowKit QM QB

/-- the nearest fraction p / q to N / D with a denominator of at most m -/
def IsB (N D m : Int) (w : World) (e : Ending) (w' : World) : Prop := ∃ p q : Int, IsBest N D m p q ∧ Nat.gcd p.natAbs q.natAbs = 1 ∧ -1073741824 ≤ p ∧ p ≤ 1073741824 ∧ q ≤ 1073741824 ∧
  e = .returned (.tuple #[.agg #[.int .i64 p, .int .i64 (q - 1)], .int .i64 0]) ∧ G w w'

theorem det_gcd {a b c d : Int} (h : a * b - c * d = 1) : Nat.gcd a.natAbs d.natAbs = 1 ∧ Nat.gcd c.natAbs b.natAbs = 1 := by
  have k : ∀ (g : Nat) (x y u v : Int), (g ∣ x.natAbs) → (g ∣ v.natAbs) → x * y - u * v = 1 → g = 1 := by
    intro g x y u v h1 h2 e
    have h1' : (g : Int) ∣ x := Int.ofNat_dvd_left.2 h1
    have h2' : (g : Int) ∣ v := Int.ofNat_dvd_left.2 h2
    have : (g : Int) ∣ 1 := by
      rw [← e]
      exact Int.dvd_sub (Int.dvd_mul_of_dvd_left h1') (Int.dvd_mul_of_dvd_right h2')
    have := Int.natAbs_dvd_natAbs.2 this
    simpa using this
  refine ⟨?_, ?_⟩
  · exact k _ a b c d (Nat.gcd_dvd_left _ _) (Nat.gcd_dvd_right _ _) h
  · refine k _ (-c) d (-a) b ?_ (Nat.gcd_dvd_right _ _) (by grind)
    rw [Int.natAbs_neg]; exact Nat.gcd_dvd_left _ _

/-- the numerators of a bracket that is reached are within the limits -/
theorem br_in {N D ln ld lg hn hd hg : Int} (B : Br N D ln ld lg hn hd hg) (h1 : -1073741824 ≤ N) (h2 : N ≤ 1073741824) (hD : D ≤ 1073741824) (hl : ld < D) (hh : hd < D) (hlg : lg ≤ D) (hhg : hg ≤ D) :
    -1073741824 ≤ ln ∧ ln ≤ 1073741824 ∧ -1073741824 ≤ hn ∧ hn ≤ 1073741824 := by
  obtain ⟨d, l, h, lp, hp, l1, h1'⟩ := B
  have hD0 : 0 < D := by omega
  have a1 : N * ld ≤ 1073741824 * ld := Int.mul_le_mul_of_nonneg_right h2 (by omega)
  have a2 : -1073741824 * ld ≤ N * ld := Int.mul_le_mul_of_nonneg_right h1 (by omega)
  have b1 : N * hd ≤ 1073741824 * hd := Int.mul_le_mul_of_nonneg_right h2 (by omega)
  have b2 : -1073741824 * hd ≤ N * hd := Int.mul_le_mul_of_nonneg_right h1 (by omega)
  have le : ∀ x y : Int, x * D ≤ y * D → x ≤ y := fun x y q => Int.le_of_mul_le_mul_right q hD0
  refine ⟨le _ _ (by omega), le _ _ (by omega), le _ _ (by omega), le _ _ (by omega)⟩

set_option maxHeartbeats 400000 in
theorem Best_err (N O m : Int) (w : World) (h : m < 1 ∨ 1073741824 < m) :
    Calls Tryd.prog 12 #[.agg #[.int .i64 N, .int .i64 O], .int .i64 m] w fun e w' => e = .returned (.tuple #[.agg #[.int .i64 0, .int .i64 0], .int .i64 2]) ∧ G w w' := by
  rcases h with h | h
  · go_enter Tryd.func12, Tryd.ntmps12
    go_wp2
    go_returns
    exact ⟨rfl, by (repeat' (first | (with_reducible exact G.refl _) | (with_reducible assumption) | (with_reducible refine G.drewN ?_ _) | (with_reducible refine G.drew ?_) | (with_reducible refine G.alloc ?_ _) | (with_reducible refine G.setCell ?_ (by first | (with_reducible exact Nat.le_refl _) | (simp; done) | (simp; omega) | omega) _) | (with_reducible refine G.trans ?_ (by assumption))))⟩
  · go_enter Tryd.func12, Tryd.ntmps12
    go_wp2
    go_returns
    exact ⟨rfl, by (repeat' (first | (with_reducible exact G.refl _) | (with_reducible assumption) | (with_reducible refine G.drewN ?_ _) | (with_reducible refine G.drew ?_) | (with_reducible refine G.alloc ?_ _) | (with_reducible refine G.setCell ?_ (by first | (with_reducible exact Nat.le_refl _) | (simp; done) | (simp; omega) | omega) _) | (with_reducible refine G.trans ?_ (by assumption))))⟩

set_option maxHeartbeats 400000 in
theorem Best_own (N O m : Int) (w : World) (h : Cn N O) (h1 : 1 ≤ m) (h2 : m ≤ 1073741824) (h3 : O + 1 ≤ m) :
    Calls Tryd.prog 12 #[.agg #[.int .i64 N, .int .i64 O], .int .i64 m] w (IsB N (O + 1) m w) := by
  have hC := h
  obtain ⟨a1, a2, a3, a4, a5⟩ := h
  go_enter Tryd.func12, Tryd.ntmps12
  go_wp2
  refine bodyPost_ret (v := .tuple #[.agg #[.int .i64 N, .int .i64 (O + 1 - 1)], .int .i64 0]) (by simp [results, Tryd.results12, go_sem]) rfl ⟨N, O + 1, best_self (by omega) h3 a5, a5, a1, a2, by omega, rfl, ?_⟩
  (repeat' (first | (with_reducible exact G.refl _) | (with_reducible assumption) | (with_reducible refine G.drewN ?_ _) | (with_reducible refine G.drew ?_) | (with_reducible refine G.alloc ?_ _) | (with_reducible refine G.setCell ?_ (by first | (with_reducible exact Nat.le_refl _) | (simp; done) | (simp; omega) | omega) _) | (with_reducible refine G.trans ?_ (by assumption))))

set_option maxHeartbeats 800000 in
theorem Best_near (N O m : Int) (w : World) (h : Cn N O) (h1 : 1 ≤ m) (h2 : m ≤ 1073741824) (h3 : m < O + 1) :
    Calls Tryd.prog 12 #[.agg #[.int .i64 N, .int .i64 O], .int .i64 m] w (IsB N (O + 1) m w) := by
  have hC := h
  obtain ⟨a1, a2, a3, a4, a5⟩ := h
  go_enter Tryd.func12, Tryd.ntmps12
  go_wp2_with fail
  refine (Den_new _ _ _ (by omega) (by omega)).mono ?_
  rintro e w1 ⟨rfl, hG1⟩
  obtain ⟨y1, y2, y3, y4, y5, y6, y7, y8, y9⟩ := two_cells hG1
  go_wp2_with fail
  refine (around_any _ _ _ _ hC h1 h3).mono ?_
  rintro e w2 ⟨ln, ld, lg, hn, hd, hg, B, m1, m2, m3, m4, m5, rfl, hG2⟩
  clear y1 y2 y3 y4 y5 y6 y7 y8 y9
  have hG3 := G.trans hG1 hG2
  obtain ⟨_, _, _, _, y5, y6, y7, y8, y9⟩ := two_cells hG3
  obtain ⟨u1, u2, u3, u4⟩ := br_in B a1 a2 (by omega) (by omega) (by omega) m4 m5
  obtain ⟨gd1, gd2⟩ := det_gcd B.det
  have s1 := B.ld1; have s2 := B.hd1; have s3 := B.lpos; have s4 := B.hpos
  obtain ⟨p11, p12⟩ := @prod_bd hg ld (by omega) (by omega) (by omega) (by omega)
  obtain ⟨p21, p22⟩ := @prod_bd lg hd (by omega) (by omega) (by omega) (by omega)
  have hGw : G w w2 := G.trans (by (repeat' (first | (with_reducible exact G.refl _) | (with_reducible assumption) | (with_reducible refine G.drewN ?_ _) | (with_reducible refine G.drew ?_) | (with_reducible refine G.alloc ?_ _) | (with_reducible refine G.setCell ?_ (by first | (with_reducible exact Nat.le_refl _) | (simp; done) | (simp; omega) | omega) _) | (with_reducible refine G.trans ?_ (by assumption))))) hG3
  clear hG1 hG2 hG3
  have gz : ∀ A B C : Obj, G w2 (((w2.alloc A).alloc B).alloc C) := fun A B C => (((G.refl w2).alloc A).alloc B).alloc C
  have z1 : ∀ A B C : Obj, (((w2.alloc A).alloc B).alloc C).cell? ⟨w.heap.size + 1, 0, none⟩ = some (.int .i64 0) := fun A B C => ((gz A B C).cell y9).trans y5
  have z2 : ∀ A B C : Obj, (((w2.alloc A).alloc B).alloc C).cell? ⟨w.heap.size + 1, 1, none⟩ = some (.int .i64 0) := fun A B C => ((gz A B C).cell y9).trans y6
  have z3 : ∀ A B C : Obj, (((w2.alloc A).alloc B).alloc C).frozen? ⟨w.heap.size + 1, 0, none⟩ = false := fun A B C => ((gz A B C).frozen y9).trans y7
  have z4 : ∀ A B C : Obj, (((w2.alloc A).alloc B).alloc C).frozen? ⟨w.heap.size + 1, 1, none⟩ = false := fun A B C => ((gz A B C).frozen y9).trans y8
  clear gz y5 y6 y7 y8
  go_wp2_with fail
  refine (Tryd.cmp_Compare_int _ _ _).mono ?_
  rintro e w3 ⟨rfl, rfl⟩
  have lo : ∀ q : lg * hd < hg * ld ∨ (hg * ld = lg * hd ∧ ld ≤ hd), IsBest N (O + 1) m ln ld := fun q => best_low B (by omega) m1 m2 q
  have hi : ∀ q : hg * ld < lg * hd ∨ (hg * ld = lg * hd ∧ hd < ld), IsBest N (O + 1) m hn hd := fun q => best_high B (by omega) m1 m3 q
  have LO := Lib.hid lo
  have HI := Lib.hid hi
  clear lo hi
  by_cases c1 : hg * ld < lg * hd
  · have hi := HI.out (Or.inl c1)
    clear LO HI
    have ec : Lib.compareInt (hg * ld) (lg * hd) = -1 := by unfold Lib.compareInt; rw [if_pos c1]
    rw [ec]
    clear ec c1 p11 p12 p21 p22
    go_wp2
    refine bodyPost_ret (v := .tuple #[.agg #[.int .i64 hn, .int .i64 (hd - 1)], .int .i64 0]) (by simp [results, Tryd.results12, go_sem, z1, z2]) rfl ⟨hn, hd, hi, gd1, u3, u4, by omega, rfl, ?_⟩
    (repeat' (first | (with_reducible exact G.refl _) | (with_reducible assumption) | (with_reducible refine G.drewN ?_ _) | (with_reducible refine G.drew ?_) | (with_reducible refine G.alloc ?_ _) | (with_reducible refine G.setCell ?_ (by first | (with_reducible exact Nat.le_refl _) | (simp; done) | (simp; omega) | omega) _) | (with_reducible refine G.trans ?_ (by assumption))))
  by_cases c2 : lg * hd < hg * ld
  · have lo := LO.out (Or.inl c2)
    clear LO HI
    have ec : Lib.compareInt (hg * ld) (lg * hd) = 1 := by unfold Lib.compareInt; rw [if_neg (by omega), if_pos (by omega)]
    rw [ec]
    clear ec c1 c2 p11 p12 p21 p22
    go_wp2
    refine bodyPost_ret (v := .tuple #[.agg #[.int .i64 ln, .int .i64 (ld - 1)], .int .i64 0]) (by simp [results, Tryd.results12, go_sem, z1, z2]) rfl ⟨ln, ld, lo, gd2, u1, u2, by omega, rfl, ?_⟩
    (repeat' (first | (with_reducible exact G.refl _) | (with_reducible assumption) | (with_reducible refine G.drewN ?_ _) | (with_reducible refine G.drew ?_) | (with_reducible refine G.alloc ?_ _) | (with_reducible refine G.setCell ?_ (by first | (with_reducible exact Nat.le_refl _) | (simp; done) | (simp; omega) | omega) _) | (with_reducible refine G.trans ?_ (by assumption))))
  have ec : Lib.compareInt (hg * ld) (lg * hd) = 0 := by unfold Lib.compareInt; rw [if_neg (by omega), if_neg (by omega)]
  rw [ec]
  clear ec
  have eq : hg * ld = lg * hd := by omega
  by_cases c3 : hd < ld
  · have hi := HI.out (Or.inr ⟨eq, c3⟩)
    clear LO HI c1 c2 p11 p12 p21 p22 eq
    go_wp2
    refine bodyPost_ret (v := .tuple #[.agg #[.int .i64 hn, .int .i64 (hd - 1)], .int .i64 0]) (by simp [results, Tryd.results12, go_sem, z1, z2]) rfl ⟨hn, hd, hi, gd1, u3, u4, by omega, rfl, ?_⟩
    (repeat' (first | (with_reducible exact G.refl _) | (with_reducible assumption) | (with_reducible refine G.drewN ?_ _) | (with_reducible refine G.drew ?_) | (with_reducible refine G.alloc ?_ _) | (with_reducible refine G.setCell ?_ (by first | (with_reducible exact Nat.le_refl _) | (simp; done) | (simp; omega) | omega) _) | (with_reducible refine G.trans ?_ (by assumption))))
  · have lo := LO.out (Or.inr ⟨eq, by omega⟩)
    clear LO HI c1 c2 p11 p12 p21 p22 eq
    go_wp2
    refine bodyPost_ret (v := .tuple #[.agg #[.int .i64 ln, .int .i64 (ld - 1)], .int .i64 0]) (by simp [results, Tryd.results12, go_sem, z1, z2]) rfl ⟨ln, ld, lo, gd2, u1, u2, by omega, rfl, ?_⟩
    (repeat' (first | (with_reducible exact G.refl _) | (with_reducible assumption) | (with_reducible refine G.drewN ?_ _) | (with_reducible refine G.drew ?_) | (with_reducible refine G.alloc ?_ _) | (with_reducible refine G.setCell ?_ (by first | (with_reducible exact Nat.le_refl _) | (simp; done) | (simp; omega) | omega) _) | (with_reducible refine G.trans ?_ (by assumption))))

/-- Best of the program, for every limit that is permitted -/
theorem Best_any (N O m : Int) (w : World) (h : Cn N O) (h1 : 1 ≤ m) (h2 : m ≤ 1073741824) :
    Calls Tryd.prog 12 #[.agg #[.int .i64 N, .int .i64 O], .int .i64 m] w (IsB N (O + 1) m w) := by
  by_cases c : O + 1 ≤ m
  · exact Best_own N O m w h h1 h2 c
  · exact Best_near N O m w h h1 h2 (by omega)
end Go.Proofs.YthengbhokamhbaaDoor
