import Derived.Test.YtgepjpbdfjcaaaaDoorSMath
/-! Spanners: slurs that cover a place are nested; one octave line covers it at most. -/
namespace Go.Proofs.YtgepjpbdfjcaaaaDoor
def OctS (p : Pl) (x : Sp) : Prop := (x.k = 4 ∨ x.k = 5) ∧ Cov x p
instance (p : Pl) (x : Sp) : Decidable (OctS p x) := by unfold OctS; infer_instance
theorem oct_cnf {p : Pl} {x y : Sp} (hx : OctS p x) (hy : OctS p y) : Cnf x y := by
  obtain ⟨kx, sx, _, ax, bx⟩ := hx
  obtain ⟨ky, sy, _, ay, byy⟩ := hy
  refine ⟨by unfold Kd; omega, ⟨by unfold gk; split <;> split <;> (try split) <;> (try split) <;> omega, by rw [sx, sy], fun h => by unfold OfV at h; omega⟩, ?_⟩
  have h1 := cmP_cases x.f p
  have h2 := cmP_cases p x.t
  have h3 := cmP_cases y.f p
  have h4 := cmP_cases p y.t
  have h5 := cmP_cases x.t y.f
  have h6 := cmP_cases y.t x.f
  unfold Rul
  rw [if_neg (by omega), if_pos (by omega)]
  unfold Tou
  unfold PLt PEq at h1 h2 h3 h4 h5 h6
  omega
theorem nest_ok {p : Pl} {x y : Sp} (kx : x.k = 1) (ky : y.k = 1) (hx : Cov x p) (hy : Cov y p) (hn : ¬ Cnf x y) (a : cmP x.f p < 0) (b : cmP p x.t < 0) (c : cmP y.f p < 0) (d : cmP p y.t < 0) (h1 : ¬ Wi x y) (h2 : ¬ Wi y x) : False := by
  obtain ⟨sx, vx, _⟩ := hx
  obtain ⟨sy, vy, _⟩ := hy
  refine hn ⟨by unfold Kd; omega, ⟨by rw [kx, ky], by rw [sx, sy], fun h => ?_⟩, ?_⟩
  · rw [vx h, vy (by rw [ky]; exact .inl rfl)]
  · have g1 := cmP_cases x.f p
    have g2 := cmP_cases p x.t
    have g3 := cmP_cases y.f p
    have g4 := cmP_cases p y.t
    have g5 := cmP_cases x.t y.f
    have g6 := cmP_cases y.t x.f
    unfold Rul
    rw [if_pos kx]
    refine ⟨?_, ⟨fun h => absurd h h1, fun h => absurd h h2⟩⟩
    unfold Ovl
    unfold PLt PEq at g1 g2 g3 g4 g5 g6
    omega
def octN (p : Pl) (l : List Sp) : Nat := (l.filter (fun x => decide (OctS p x))).length
theorem oct_one {p : Pl} {l : List Sp} (h : l.Pairwise (fun y x => ¬ Cnf y x)) : octN p l ≤ 1 := by
  unfold octN
  have h1 := h.filter (fun x => decide (OctS p x))
  have h2 : ∀ x ∈ l.filter (fun x => decide (OctS p x)), OctS p x := fun x hx => of_decide_eq_true (List.mem_filter.1 hx).2
  match l.filter (fun x => decide (OctS p x)), h1, h2 with
  | [], _, _ => simp
  | [a], _, _ => simp
  | a :: b :: r, h1, h2 =>
    exact absurd (oct_cnf (h2 a (by simp)) (h2 b (by simp))) ((List.pairwise_cons.1 h1).1 b (by simp))
theorem oct_next {p : Pl} {l : List Sp} {i : Nat} {x : Sp} (h : l[i]? = some x) : octN p (l.take (i + 1)) = if OctS p x then octN p (l.take i) + 1 else octN p (l.take i) := by
  unfold octN
  rw [take_one h, List.filter_append, List.length_append]
  by_cases c : OctS p x
  · rw [if_pos c]; simp [c]
  · rw [if_neg c]; simp [c]
theorem pair_at {l : List Sp} (h : l.Pairwise (fun y x => ¬ Cnf y x)) {i j : Nat} {x y : Sp} (hj : j < i) (hx : l[i]? = some x) (hy : l[j]? = some y) : ¬ Cnf x y := by
  obtain ⟨h1, rfl⟩ := List.getElem?_eq_some_iff.1 hx
  obtain ⟨h2, rfl⟩ := List.getElem?_eq_some_iff.1 hy
  exact fun c => List.pairwise_iff_getElem.1 h j i h2 h1 hj c.symm
end Go.Proofs.YtgepjpbdfjcaaaaDoor
