import Derived.Test.YtabaiklagobimaaT9
/-! Tuplets, in plain terms: lengths that are multiplied. -/
namespace Go.Proofs.Ytabaiklagobimaa

theorem lensE_all {l : List Tu} : ∀ (r : List Int) (e : Int), lensE l e r = 0 → ∀ (i : Nat) (x : Int), r[i]? = some x → lenE l (e + i) x = 0
  | [], _, _, i, x, h => by simp at h
  | y :: r, e, h0, i, x, h => by
    unfold lensE at h0
    by_cases c : lenE l e y = 0
    · rw [if_pos c] at h0
      cases i with
      | zero =>
        simp at h
        subst h
        simpa using c
      | succ i =>
        have := lensE_all r (e + 1) h0 i x (by simpa using h)
        rw [show e + ((i + 1 : Nat) : Int) = e + 1 + (i : Int) by omega]
        exact this
    · rw [if_neg c] at h0; exact absurd h0 c
theorem len_scale {l : List Tu} (hF : Fit l) {e x K : Int} (h : lenE l e x = 0) (hK : 1 ≤ K) (hx : x * K ≤ 7741440) : lenE l e (x * K) = 0 ∧ lenV l e (x * K) = lenV l e x * K := by
  unfold lenE at h
  by_cases c : 0 ≤ x ∧ x ≤ 7741440
  · rw [if_pos c] at h
    by_cases d : x * (prT l e).1 % (prT l e).2 = 0
    · have hp : 0 ≤ x * K := Int.mul_nonneg c.1 (by omega)
      have hD := (hF.all e).2.1
      obtain ⟨q, hq⟩ : (prT l e).2 ∣ x * (prT l e).1 := Int.dvd_of_emod_eq_zero d
      have e1 : x * K * (prT l e).1 = (prT l e).2 * (q * K) := by rw [Int.mul_right_comm, hq, Int.mul_assoc]
      have A : lenE l e (x * K) = 0 := by unfold lenE; rw [if_pos ⟨hp, hx⟩, e1, if_pos (Int.mul_emod_right _ _)]
      have B : lenV l e (x * K) = q * K := by unfold lenV; rw [if_pos ⟨hp, hx⟩, e1, if_pos (Int.mul_emod_right _ _), Int.mul_ediv_cancel_left _ (by omega)]
      have C : lenV l e x = q := by unfold lenV; rw [if_pos c, if_pos d, hq, Int.mul_ediv_cancel_left _ (by omega)]
      exact ⟨A, by rw [B, C]⟩
    · rw [if_neg d] at h; exact absurd h (by decide)
  · rw [if_neg c] at h; exact absurd h (by decide)
theorem lens_scale {l : List Tu} (hF : Fit l) {K : Int} (hK : 1 ≤ K) : ∀ (r : List Int) (e : Int), lensE l e r = 0 → (∀ x ∈ r, x * K ≤ 7741440) → lensE l e (r.map (· * K)) = 0 ∧ lens l e (r.map (· * K)) = (lens l e r).map (· * K)
  | [], _, _, _ => ⟨rfl, rfl⟩
  | y :: r, e, h0, hx => by
    unfold lensE at h0
    by_cases c : lenE l e y = 0
    · rw [if_pos c] at h0
      obtain ⟨i1, i2⟩ := lens_scale hF hK r (e + 1) h0 (fun x h => hx x (by simp [h]))
      obtain ⟨j1, j2⟩ := len_scale hF c hK (hx y (by simp))
      rw [List.map_cons, lensE, if_pos j1, lens, lens, List.map_cons, i1, i2, j2]
      exact ⟨rfl, rfl⟩
    · rw [if_neg c] at h0; exact absurd h0 c
theorem lensT_ok {l : List Tu} {r : List Int} (h : lensT l r = 0) : ckT r.length l = 0 ∧ lensE l 0 r = 0 := by
  unfold lensT at h
  by_cases c : ckT r.length l = 0
  · rw [if_pos c] at h; exact ⟨c, h⟩
  · rw [if_neg c] at h; exact absurd h c
theorem lenE_in {l : List Tu} {e x : Int} (h : lenE l e x = 0) : 0 ≤ x ∧ x ≤ 7741440 := by
  unfold lenE at h
  by_cases c : 0 ≤ x ∧ x ≤ 7741440
  · exact c
  · rw [if_neg c] at h; exact absurd h (by decide)
theorem lensT_scale {l : List Tu} {r : List Int} (h : lensT l r = 0) {K : Int} (hK : 1 ≤ K) (hx : ∀ x ∈ r, x * K ≤ 7741440) : lensT l (r.map (· * K)) = 0 ∧ lens l 0 (r.map (· * K)) = (lens l 0 r).map (· * K) := by
  obtain ⟨h1, h2⟩ := lensT_ok h
  obtain ⟨i1, i2⟩ := lens_scale (ckT_fit h1) hK r 0 h2 hx
  refine ⟨?_, i2⟩
  unfold lensT
  rw [List.length_map, if_pos h1, i1]
theorem lensT_in {l : List Tu} {r : List Int} (h : lensT l r = 0) {i : Nat} {x : Int} (hx : r[i]? = some x) : 0 ≤ x ∧ x ≤ 7741440 := lenE_in (lensE_all r 0 (lensT_ok h).2 i x hx)
end Go.Proofs.Ytabaiklagobimaa
