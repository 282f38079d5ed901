import Derived.Test.YthengbhokamhbaaDoorSmall
/-! Order and rounding of fractions. -/
namespace Go.Proofs.YthengbhokamhbaaDoor
open Go.RowKit QM

/-- how two numbers compare -/
def cm (a b : Int) : Int := if a < b then -1 else if b < a then 1 else 0
theorem cm_self (a : Int) : cm a a = 0 := by unfold cm; simp
theorem cm_bd (a b : Int) : -1 ≤ cm a b ∧ cm a b ≤ 1 := by unfold cm; split <;> (try split) <;> omega

theorem Num_any (N O : Int) (w : World) :
    Calls Tryd.prog 14 #[.agg #[.int .i64 N, .int .i64 O]] w fun e w' => e = .returned (.int .i64 N) ∧ w.alloc (.cells #[.int .i64 N, .int .i64 O] 27) = w' := by
  go_enter Tryd.func14, Tryd.ntmps14
  go_wp2
  go_ret
  exact ⟨rfl, rfl⟩

set_option maxHeartbeats 400000 in
theorem Neg_any (N O : Int) (w : World) (h : Cn N O) :
    Calls Tryd.prog 22 #[.agg #[.int .i64 N, .int .i64 O]] w fun e w' => e = .returned (.agg #[.int .i64 (-N), .int .i64 O]) ∧ G w w' := by
  obtain ⟨a1, a2, a3, a4, _⟩ := h
  go_enter Tryd.func22, Tryd.ntmps22
  go_wp2
  go_returns
  exact ⟨rfl, by (repeat' (first | (with_reducible exact G.refl _) | (with_reducible assumption) | (with_reducible refine G.drewN ?_ _) | (with_reducible refine G.drew ?_) | (with_reducible refine G.alloc ?_ _) | (with_reducible refine G.setCell ?_ (by first | (with_reducible exact Nat.le_refl _) | (simp; done) | (simp; omega) | omega) _) | (with_reducible refine G.trans ?_ (by assumption))))⟩

/-- floor of the program: Go's division rounds towards 0 -/
theorem tdiv_floor {n d : Int} (h : 1 ≤ d) : (if n.tmod d < 0 then n.tdiv d - 1 else n.tdiv d) = n / d := by
  have e := Int.tdiv_eq_ediv (a := n) (b := d)
  have e2 := Int.tmod_eq_emod (a := n) (b := d)
  have h1 := Int.emod_nonneg n (by omega : d ≠ 0)
  have h2 := Int.emod_lt_of_pos n (by omega : 0 < d)
  have hs : d.sign = 1 := Int.sign_eq_one_of_pos (by omega)
  have hn : (d.natAbs : Int) = d := by omega
  by_cases c : 0 ≤ n ∨ d ∣ n
  · rw [if_pos c] at e e2
    rw [if_neg (by omega)]; omega
  · rw [if_neg c] at e e2
    have : n % d ≠ 0 := fun z => c (Or.inr (Int.dvd_of_emod_eq_zero z))
    rw [if_pos (by omega)]; omega

theorem div_bd {n d : Int} (h : 1 ≤ d) (h1 : -4611686018427387904 ≤ n) (h2 : n ≤ 4611686018427387904) : -4611686018427387904 ≤ n / d ∧ n / d ≤ 4611686018427387904 := by
  refine ⟨?_, ?_⟩
  · exact (Int.le_ediv_iff_mul_le (by omega)).2 (by have : -4611686018427387904 * d ≤ -4611686018427387904 := by omega
                                                    omega)
  · rcases Int.lt_or_le n 0 with c | c
    · have := Int.ediv_neg_of_neg_of_pos c (by omega : 0 < d); omega
    · have := Int.ediv_le_self d c; omega

theorem tdiv_bd {n d : Int} (h : 1 ≤ d) (h1 : -4611686018427387904 ≤ n) (h2 : n ≤ 4611686018427387904) : -4611686018427387904 ≤ n.tdiv d ∧ n.tdiv d ≤ 4611686018427387905 := by
  have e := Int.tdiv_eq_ediv (a := n) (b := d)
  have hb := @div_bd n d h h1 h2
  have hs : d.sign = 1 := Int.sign_eq_one_of_pos (by omega)
  rw [hs] at e
  split at e <;> omega

set_option maxHeartbeats 400000 in
theorem floor_any (n d : Int) (w : World) (h : 1 ≤ d) (h3 : d ≤ 4611686018427387904) (h1 : -4611686018427387904 ≤ n) (h2 : n ≤ 4611686018427387904) :
    Calls Tryd.prog 29 #[.int .i64 n, .int .i64 d] w fun e w' => e = .returned (.int .i64 (n / d)) ∧ w = w' := by
  have hf := Lib.hid (@tdiv_floor n d h)
  obtain ⟨hb1, hb2⟩ := @tdiv_bd n d h h1 h2
  by_cases c : n.tmod d < 0
  · go_enter Tryd.func29, Tryd.ntmps29
    go_wp2
    go_ret
    refine ⟨ret_int ?_, rfl⟩
    have := hf.out
    rw [if_pos c] at this
    rw [← this]
  · go_enter Tryd.func29, Tryd.ntmps29
    go_wp2
    go_ret
    refine ⟨ret_int ?_, rfl⟩
    have := hf.out
    rw [if_neg (by omega)] at this
    rw [← this]

theorem tdiv_mul {n d : Int} (h : 1 ≤ d) (h1 : -4611686018427387904 ≤ n) (h2 : n ≤ 4611686018427387904) :
    (if n < n.tdiv d * d then n.tdiv d - 1 else n.tdiv d) = n / d ∧ -4611686018427387904 ≤ n.tdiv d * d ∧ n.tdiv d * d ≤ 4611686018427387904 := by
  have e := Int.tmod_add_mul_tdiv n d
  rw [Int.mul_comm] at e
  have f := @tdiv_floor n d h
  have e2 := Int.tmod_eq_emod (a := n) (b := d)
  have k1 := Int.emod_nonneg n (by omega : d ≠ 0)
  have k2 := Int.emod_lt_of_pos n (by omega : 0 < d)
  have hn : (d.natAbs : Int) = d := by omega
  have m1 : n.tdiv d * d ≤ 4611686018427387904 ∧ -4611686018427387904 ≤ n.tdiv d * d := by
    by_cases c : 0 ≤ n
    · have c1 := Int.tmod_nonneg d c
      have c2 := Int.mul_nonneg (Int.tdiv_nonneg c (by omega : 0 ≤ d)) (by omega : 0 ≤ d)
      omega
    · have c1 : n.tmod d ≤ 0 := by
        have := Int.tmod_nonneg d (by omega : 0 ≤ -n)
        rw [Int.neg_tmod] at this; omega
      have c2 : n.tdiv d * d ≤ 0 := by
        have := Int.mul_nonneg (Int.tdiv_nonneg (by omega : 0 ≤ -n) (by omega : 0 ≤ d)) (by omega : 0 ≤ d)
        rw [Int.neg_tdiv, Int.neg_mul] at this; omega
      have c3 : n.tmod d = 0 ∨ -d < n.tmod d := by
        by_cases z : 0 ≤ n ∨ d ∣ n
        · rw [if_pos z] at e2; left
          rcases z with z | z
          · omega
          · have := Int.emod_eq_zero_of_dvd z; omega
        · rw [if_neg z] at e2; right
          have : n % d ≠ 0 := fun q => z (Or.inr (Int.dvd_of_emod_eq_zero q))
          omega
      omega
  refine ⟨?_, m1.2, m1.1⟩
  rw [← f]
  by_cases c : n.tmod d < 0
  · rw [if_pos c, if_pos (by omega)]
  · rw [if_neg c, if_neg (by omega)]

set_option maxHeartbeats 400000 in
theorem Floor_any (N O : Int) (w : World) (h : Cn N O) :
    Calls Tryd.prog 17 #[.agg #[.int .i64 N, .int .i64 O]] w fun e w' => e = .returned (.int .i64 (N / (O + 1))) ∧ G w w' := by
  obtain ⟨a1, a2, a3, a4, _⟩ := h
  obtain ⟨d1, d2⟩ := @div_bd (N) (O + 1) (by omega) (by omega) (by omega)

  go_enter Tryd.func17, Tryd.ntmps17
  go_wp2_with fail
  go_region_held3 (fun w' => w'.cell? ⟨w.heap.size, 0, none⟩ = some (.int .i64 N) ∧ w'.cell? ⟨w.heap.size, 1, none⟩ = some (.int .i64 O))
    (first | (with_reducible assumption) | ((try dsimp only); (repeat' (with_reducible apply And.intro)) <;> go_simp))
    (first | (go_at_call 15; refine (Den_any _ _ _ (by omega) (by omega)).mono ?_; rintro e w1 ⟨rfl, rfl⟩) | (go_at_call 29; refine (floor_any _ _ _ (by omega) (by omega) (by omega) (by omega)).mono ?_; rintro e w1 ⟨rfl, rfl⟩))
  go_wp2
  go_ret
  exact ⟨rfl, by (repeat' (first | (with_reducible exact G.refl _) | (with_reducible assumption) | (with_reducible refine G.drewN ?_ _) | (with_reducible refine G.drew ?_) | (with_reducible refine G.alloc ?_ _) | (with_reducible refine G.setCell ?_ (by first | (with_reducible exact Nat.le_refl _) | (simp; done) | (simp; omega) | omega) _) | (with_reducible refine G.trans ?_ (by assumption))))⟩

set_option maxHeartbeats 400000 in
theorem Ceil_any (N O : Int) (w : World) (h : Cn N O) :
    Calls Tryd.prog 18 #[.agg #[.int .i64 N, .int .i64 O]] w fun e w' => e = .returned (.int .i64 (-((-N) / (O + 1)))) ∧ G w w' := by
  obtain ⟨a1, a2, a3, a4, _⟩ := h
  obtain ⟨d1, d2⟩ := @div_bd (-N) (O + 1) (by omega) (by omega) (by omega)
  have q0 := IntWalk.i64_in (-N) (by omega)
  have q1 := IntWalk.i64_in (-(-N / (O + 1))) (by omega)
  go_enter Tryd.func18, Tryd.ntmps18
  go_wp2_with fail
  go_region_held3 (fun w' => w'.cell? ⟨w.heap.size, 0, none⟩ = some (.int .i64 N) ∧ w'.cell? ⟨w.heap.size, 1, none⟩ = some (.int .i64 O))
    (first | (with_reducible assumption) | ((try dsimp only); (repeat' (with_reducible apply And.intro)) <;> go_simp))
    (first | (go_at_call 15; refine (Den_any _ _ _ (by omega) (by omega)).mono ?_; rintro e w1 ⟨rfl, rfl⟩) | (go_at_call 29; refine (floor_any _ _ _ (by omega) (by omega) (by omega) (by omega)).mono ?_; rintro e w1 ⟨rfl, rfl⟩))
  go_wp2
  go_ret
  exact ⟨rfl, by (repeat' (first | (with_reducible exact G.refl _) | (with_reducible assumption) | (with_reducible refine G.drewN ?_ _) | (with_reducible refine G.drew ?_) | (with_reducible refine G.alloc ?_ _) | (with_reducible refine G.setCell ?_ (by first | (with_reducible exact Nat.le_refl _) | (simp; done) | (simp; omega) | omega) _) | (with_reducible refine G.trans ?_ (by assumption))))⟩

set_option maxHeartbeats 400000 in
theorem Round_any (N O : Int) (w : World) (h : Cn N O) :
    Calls Tryd.prog 19 #[.agg #[.int .i64 N, .int .i64 O]] w fun e w' => e = .returned (.int .i64 ((2 * N + (O + 1)) / (2 * (O + 1)))) ∧ G w w' := by
  obtain ⟨a1, a2, a3, a4, _⟩ := h
  obtain ⟨d1, d2⟩ := @div_bd (2 * N + (O + 1)) (2 * (O + 1)) (by omega) (by omega) (by omega)
  have q0 := IntWalk.i64_in (2 * N) (by omega)
  have q1 := IntWalk.i64_in (2 * N + (O + 1)) (by omega)
  have q2 := IntWalk.i64_in (2 * (O + 1)) (by omega)
  go_enter Tryd.func19, Tryd.ntmps19
  go_wp2_with fail
  go_region_held3 (fun w' => w'.cell? ⟨w.heap.size, 0, none⟩ = some (.int .i64 N) ∧ w'.cell? ⟨w.heap.size, 1, none⟩ = some (.int .i64 O))
    (first | (with_reducible assumption) | ((try dsimp only); (repeat' (with_reducible apply And.intro)) <;> go_simp))
    (first | (go_at_call 15; refine (Den_any _ _ _ (by omega) (by omega)).mono ?_; rintro e w1 ⟨rfl, rfl⟩) | (go_at_call 29; refine (floor_any _ _ _ (by omega) (by omega) (by omega) (by omega)).mono ?_; rintro e w1 ⟨rfl, rfl⟩))
  go_wp2
  go_ret
  exact ⟨rfl, by (repeat' (first | (with_reducible exact G.refl _) | (with_reducible assumption) | (with_reducible refine G.drewN ?_ _) | (with_reducible refine G.drew ?_) | (with_reducible refine G.alloc ?_ _) | (with_reducible refine G.setCell ?_ (by first | (with_reducible exact Nat.le_refl _) | (simp; done) | (simp; omega) | omega) _) | (with_reducible refine G.trans ?_ (by assumption))))⟩

theorem cm_lib (a b : Int) : Lib.compareInt a b = cm a b := rfl
end Go.Proofs.YthengbhokamhbaaDoor
