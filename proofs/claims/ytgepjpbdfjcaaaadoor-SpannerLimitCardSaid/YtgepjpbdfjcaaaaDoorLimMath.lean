import Derived.Test.YtgepjpbdfjcaaaaDoorSMath
/-! Spanners: a long list of spans that are apart. -/
namespace Go.Proofs.YtgepjpbdfjcaaaaDoor
def limE (K : Int) (i : Nat) : Sp := ⟨K, ⟨0, 2 * ((i : Int) / 128), (i : Int) % 128, 0⟩, ⟨0, 2 * ((i : Int) / 128) + 1, (i : Int) % 128, 0⟩⟩
def limL (K : Int) (n : Nat) : List Sp := (List.range n).map (limE K)
theorem limL_len (K : Int) (n : Nat) : (limL K n).length = n := by simp [limL]
theorem limL_more (K : Int) (n : Nat) : limL K (n + 1) = limL K n ++ [limE K n] := by simp [limL, List.range_succ]
theorem limL_at {K : Int} {n i : Nat} {x : Sp} (h : (limL K n)[i]? = some x) : i < n ∧ x = limE K i := by
  obtain ⟨hi, e⟩ := List.getElem?_eq_some_iff.1 h
  rw [limL_len] at hi
  refine ⟨hi, ?_⟩
  rw [← e]
  simp [limL]
theorem lim_pr (K : Int) (i : Nat) (hK : Kd K) (hi : i < 4096) : prS (limE K i) = 0 := by
  have hc := cmP_cases (limE K i).f (limE K i).t
  have h1 : InP (limE K i).f := by unfold InP limE; dsimp only; omega
  have h2 : InP (limE K i).t := by unfold InP limE; dsimp only; omega
  have h3 : Tog (limE K i) := ⟨rfl, fun _ => rfl⟩
  have h4 : PLt (limE K i).f (limE K i).t := by unfold PLt limE; dsimp only; omega
  have h5 : cmP (limE K i).f (limE K i).t < 0 := by unfold PLt PEq at hc; unfold PLt at h4; omega
  unfold prS
  rw [if_pos (show Kd (limE K i).k from hK), if_pos ⟨h1, h2⟩, if_pos h3, if_pos h5]
theorem lim_apart (K : Int) (i j : Nat) (hij : i < j) : ¬ Cnf (limE K i) (limE K j) := by
  rintro ⟨_, ⟨_, hs, _⟩, hr⟩
  have hs' : (i : Int) % 128 = (j : Int) % 128 := hs
  have hlt : (i : Int) / 128 < (j : Int) / 128 := by omega
  have hc := cmP_cases (limE K i).t (limE K j).f
  have h4 : PLt (limE K i).t (limE K j).f := by unfold PLt limE; dsimp only; omega
  have h5 : cmP (limE K i).t (limE K j).f = -1 := by unfold PLt PEq at hc; unfold PLt at h4; omega
  unfold Rul Crs Ovl Tou at hr
  rw [h5] at hr
  split at hr
  · exact absurd hr.1.1 (by decide)
  · split at hr
    · exact absurd hr.1 (by decide)
    · exact absurd hr.1 (by decide)
theorem lim_ok (K : Int) (n : Nat) (hK : Kd K) (hn : n ≤ 4096) : ckS (limL K n) = (-1, 0) := by
  have h : (ckS (limL K n)).2 = 0 := (ckS_ok (by rw [limL_len]; exact hn)).2 ⟨fun x hx => by
    obtain ⟨i, hi⟩ := List.mem_iff_getElem?.1 hx
    obtain ⟨h1, rfl⟩ := limL_at hi
    exact lim_pr K i hK (by omega), by
    rw [List.pairwise_iff_getElem]
    intro i j hi hj hij
    have e1 := (limL_at (List.getElem?_eq_getElem hi)).2
    have e2 := (limL_at (List.getElem?_eq_getElem hj)).2
    rw [e1, e2]
    exact lim_apart K i j hij⟩
  unfold ckS at h ⊢
  rw [if_pos (by rw [limL_len]; exact hn)] at h ⊢
  exact ckR_ok1 _ _ h
theorem lim_over (K : Int) : ckS (limL K 4097) = (4096, 9) := by
  unfold ckS
  rw [if_neg (by rw [limL_len]; omega)]
end Go.Proofs.YtgepjpbdfjcaaaaDoor
