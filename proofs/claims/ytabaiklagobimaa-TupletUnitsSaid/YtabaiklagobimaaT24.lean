import Derived.Test.YtabaiklagobimaaT23
/-! Tuplets: the sum of the lengths in an outermost tuplet. -/
namespace Go.Proofs.Ytabaiklagobimaa

def gL (l : List Tu) (r : List Int) : Nat → Int := fun e => (lens l 0 r).getD e 0
theorem gL_at {l : List Tu} {r : List Int} {e : Nat} {x : Int} (h : (lens l 0 r)[e]? = some x) : gL l r e = x := by
  unfold gL
  rw [List.getD_eq_getElem?_getD, h]
  rfl
theorem gL_bd {l : List Tu} (hF : Fit l) (r : List Int) (e : Nat) : 0 ≤ gL l r e ∧ gL l r e ≤ 253671505920 := by
  cases h : (lens l 0 r)[e]? with
  | none => unfold gL; rw [List.getD_eq_getElem?_getD, h]; decide
  | some x => rw [gL_at h]; exact lens_bd hF r 0 x (List.mem_of_getElem? h)
theorem sumL_bd {t : Tu} {l : List Tu} {r : List Int} (hF : Fit l) : ∀ e : Nat, 0 ≤ sumU t (gL l r) e ∧ sumU t (gL l r) e ≤ 253671505920 * e
  | 0 => by simp [sumU]
  | e + 1 => by
    have h1 := sumL_bd (t := t) (r := r) hF e
    have h2 := gL_bd hF r e
    unfold sumU
    split <;> omega
theorem unit_sum {l : List Tu} {r : List Int} {i : Nat} {t : Tu} (h : lensT l r = 0) (hi : l[i]? = some t) (ho : ∀ k, k ∈ l.take i → ¬ Wi t k) (hu : UK t (l.drop (i + 1)) r) :
    ∃ k : Nat, k < 10 ∧ lgI l r t i = (k : Int) - 1 ∧ sumU t (gL l r) r.length = sz k * t.n := by
  obtain ⟨k, hk, e1, e2⟩ := lg_all (List.range 10) (fun k hk => List.mem_range.1 hk) hu.2
  refine ⟨k, hk, e1, ?_⟩
  have hta : Rt t.a := ((ckT_ok (lensT_ok h).1).2.2.2.1 t (List.mem_of_getElem? hi)).2.2.2.1
  have hs := sumU_scale (t := t) (g := gU (l.drop (i + 1)) r) (h := gL l r) (a := t.a) (n := t.n) (E := r.length) r.length (Nat.le_refl _) (fun e he hin => by
    obtain ⟨x, hx⟩ : ∃ z, r[e]? = some z := ⟨r[e], List.getElem?_eq_getElem he⟩
    have h3 := lens_at l r 0 e x hx
    rw [Int.zero_add] at h3
    have h4 := lensE_all r 0 (lensT_ok h).2 e x hx
    rw [Int.zero_add] at h4
    rw [gL_at h3, gU_at hx]
    exact len_outer (lensT_ok h).1 hi ho hin (lensT_in h hx) h4 (hu.1 e x hx hin))
  have e3 : sumU t (gU (l.drop (i + 1)) r) r.length = t.a * sz k := e2
  rw [e3] at hs
  refine Int.eq_of_mul_eq_mul_right (a := t.a) (by unfold Rt at hta; omega) ?_
  rw [hs, Int.mul_comm t.a, Int.mul_assoc, Int.mul_assoc, Int.mul_comm t.a]
end Go.Proofs.Ytabaiklagobimaa
