import Derived.Test.YtdpidcmalcfjaaaDoorRSum
/-! The reference's sums with the values of the program. -/
namespace Go.Proofs.YtdpidcmalcfjaaaDoor
open Go.RowKit

theorem radd_any (a b c d : Int) (w : World) :
    Calls Tryd.prog 14 #[.agg #[.int .i64 a, .int .i64 b], .agg #[.int .i64 c, .int .i64 d], .int .i64 1] w fun e w' => e = .returned (.tuple #[.agg #[.int .i64 (sy a b c d (a + c)), .int .i64 (sy a b c d (b + d))], .int .i64 (se a b c d)]) ∧ G w w' := by
  unfold sy se
  by_cases h : Iv a b ∧ Iv c d
  · have k := rSum_ok a b c d 1 w h.1 h.2 (.inl rfl)
    rw [Int.one_mul, Int.one_mul] at k
    unfold iy ie at k
    by_cases m : Iv (a + c) (b + d)
    · have n : Sm a b c d := ⟨h, m⟩
      rw [if_pos m, if_pos m, if_pos m] at k
      rw [if_pos n, if_pos n, if_pos n]
      exact k
    · have n : ¬ Sm a b c d := fun z => m z.2
      rw [if_neg m, if_neg m, if_neg m] at k
      rw [if_neg n, if_neg n, if_neg n]
      exact k
  · have n : ¬ Sm a b c d := fun z => h z.1
    rw [if_neg n, if_neg n, if_neg n]
    exact rSum_bad a b c d 1 w h
theorem neg_iv {c c' d d' : Int} (hc : IntKind.i64.wrap (-c) = c') (hd : IntKind.i64.wrap (-d) = d') (c0 : -9223372036854775808 ≤ c) (c1 : c ≤ 9223372036854775807) (d0 : -9223372036854775808 ≤ d) (d1 : d ≤ 9223372036854775807) : Iv c' d' ↔ Iv c d ∧ c' = -c ∧ d' = -d := by
  have e1 : c = -9223372036854775808 ∨ c' = -c := by
    by_cases q : c = -9223372036854775808
    · exact .inl q
    · exact .inr (by rw [← hc]; exact IntWalk.i64_in (-c) (by omega))
  have e2 : d = -9223372036854775808 ∨ d' = -d := by
    by_cases q : d = -9223372036854775808
    · exact .inl q
    · exact .inr (by rw [← hd]; exact IntWalk.i64_in (-d) (by omega))
  have m1 : c = -9223372036854775808 → c' = -9223372036854775808 := fun q => by rw [← hc, q]; decide
  have m2 : d = -9223372036854775808 → d' = -9223372036854775808 := fun q => by rw [← hd, q]; decide
  unfold Iv
  omega
theorem rsub_any (a b c d c' d' : Int) (w : World) (hc : IntKind.i64.wrap (-c) = c') (hd : IntKind.i64.wrap (-d) = d') (c0 : -9223372036854775808 ≤ c) (c1 : c ≤ 9223372036854775807) (d0 : -9223372036854775808 ≤ d) (d1 : d ≤ 9223372036854775807) :
    Calls Tryd.prog 14 #[.agg #[.int .i64 a, .int .i64 b], .agg #[.int .i64 c, .int .i64 d], .int .i64 (-1)] w fun e w' => e = .returned (.tuple #[.agg #[.int .i64 (sy a b c' d' (a + c')), .int .i64 (sy a b c' d' (b + d'))], .int .i64 (se a b c' d')]) ∧ G w w' := by
  have hv := neg_iv hc hd c0 c1 d0 d1
  unfold sy se
  by_cases h : Iv a b ∧ Iv c d
  · have k := rSum_ok a b c d (-1) w h.1 h.2 (.inr rfl)
    have e1 : c' = -c := by rw [← hc]; exact IntWalk.i64_in (-c) (by obtain ⟨_, ⟨_, _⟩, _, _⟩ := h; omega)
    have e2 : d' = -d := by rw [← hd]; exact IntWalk.i64_in (-d) (by obtain ⟨_, ⟨_, _⟩, _, _⟩ := h; omega)
    have f1 : (-1 : Int) * c = c' := by omega
    have f2 : (-1 : Int) * d = d' := by omega
    rw [f1, f2] at k
    unfold iy ie at k
    by_cases m : Iv (a + c') (b + d')
    · have n : Sm a b c' d' := ⟨⟨h.1, hv.2 ⟨h.2, e1, e2⟩⟩, m⟩
      rw [if_pos m, if_pos m, if_pos m] at k
      rw [if_pos n, if_pos n, if_pos n]
      exact k
    · have n : ¬ Sm a b c' d' := fun z => m z.2
      rw [if_neg m, if_neg m, if_neg m] at k
      rw [if_neg n, if_neg n, if_neg n]
      exact k
  · have n : ¬ Sm a b c' d' := fun z => h ⟨z.1.1, (hv.1 z.1.2).1⟩
    rw [if_neg n, if_neg n, if_neg n]
    exact rSum_bad a b c d (-1) w h
end Go.Proofs.YtdpidcmalcfjaaaDoor
