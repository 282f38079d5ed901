import Derived.Test.YtabaiklagobimaaTSort
/-! Tuplets, in plain terms: the reference's loops; units. -/
namespace Go.Proofs.Ytabaiklagobimaa

/-- an event at which a tuplet is against the earlier ones -/
def BadAt (b : List Tu) (t : Tu) (e : Int) : Prop := InT t e ∧ ((∃ k, k ∈ b ∧ InT k e ∧ ¬ Wi t k) ∨ 3 ≤ (b.filter (fun k => decide (InT k e))).length)
theorem bad_at {ev : Int} {b : List Tu} {t : Tu} : Bad ev b t ↔ ∃ e : Int, 0 ≤ e ∧ e < ev ∧ BadAt b t e := Iff.rfl
/-- how many of the first earlier ones contain an event of the tuplet -/
def dpt (b : List Tu) (t : Tu) (e : Int) : Nat := if InT t e then (b.filter (fun k => decide (InT k e))).length else 0
theorem dpt_next {l : List Tu} {k : Nat} {u t : Tu} {e : Int} (h : l[k]? = some u) : dpt (l.take (k + 1)) t e = if InT t e ∧ InT u e then dpt (l.take k) t e + 1 else dpt (l.take k) t e := by
  unfold dpt
  rw [List.take_add_one, h]
  by_cases c : InT t e
  · rw [if_pos c, if_pos c, List.filter_append, List.length_append]
    by_cases d : InT u e
    · rw [if_pos ⟨c, d⟩]
      simp [d]
    · rw [if_neg (fun x => d x.2)]
      simp [d]
  · rw [if_neg c, if_neg c, if_neg (fun x => c x.1)]
theorem not_badAt {b : List Tu} {t : Tu} {e : Int} (hw : ∀ k, k ∈ b → InT t e → InT k e → Wi t k) (hd : dpt b t e < 3) : ¬ BadAt b t e := by
  rintro ⟨h, ⟨k, hk, h1, h2⟩ | h3⟩
  · exact h2 (hw k hk h h1)
  · unfold dpt at hd
    rw [if_pos h] at hd
    omega
theorem badAt_deep {b : List Tu} {t : Tu} {e : Int} (hd : 3 ≤ dpt b t e) : BadAt b t e := by
  unfold dpt at hd
  by_cases h : InT t e
  · rw [if_pos h] at hd; exact ⟨h, .inr hd⟩
  · rw [if_neg h] at hd; omega
/-- the reference's fraction, begun with a written length -/
theorem sc_eq (e w : Int) : ∀ (l : List Tu) (p : Int × Int), l.foldl (prS e) (w * p.1, p.2) = (w * (l.foldl (prS e) p).1, (l.foldl (prS e) p).2)
  | [], _ => rfl
  | t :: l, p => by
    rw [List.foldl_cons, List.foldl_cons]
    by_cases c : InT t e
    · have h1 : prS e (w * p.1, p.2) t = (w * (prS e p t).1, (prS e p t).2) := by unfold prS; rw [if_pos c, if_pos c, Int.mul_assoc]
      rw [h1, sc_eq e w l]
    · have h1 : prS e (w * p.1, p.2) t = (w * (prS e p t).1, (prS e p t).2) := by unfold prS; rw [if_neg c, if_neg c]
      rw [h1, sc_eq e w l]
def scT (l : List Tu) (e w : Int) : Int × Int := l.foldl (prS e) (w, 1)
theorem scT_eq (l : List Tu) (e w : Int) : scT l e w = (w * (prT l e).1, (prT l e).2) := by
  have := sc_eq e w l (1, 1)
  rw [Int.mul_one] at this
  exact this
theorem scT_next {l : List Tu} {i : Nat} {t : Tu} (e w : Int) (h : l[i]? = some t) : scT (l.take (i + 1)) e w = prS e (scT (l.take i) e w) t := by
  unfold scT
  rw [List.take_add_one, h, List.foldl_append]
  rfl
/-- a fraction, begun with another one -/
theorem pr_from (e : Int) : ∀ (l : List Tu) (p : Int × Int), l.foldl (prS e) p = (p.1 * (prT l e).1, p.2 * (prT l e).2)
  | [], p => by show p = (p.1 * 1, p.2 * 1); rw [Int.mul_one, Int.mul_one]
  | t :: l, p => by
    have h2 : prT (t :: l) e = l.foldl (prS e) (prS e (1, 1) t) := rfl
    rw [h2, List.foldl_cons, pr_from e l, pr_from e l (prS e (1, 1) t)]
    by_cases c : InT t e
    · have h1 : ∀ q : Int × Int, prS e q t = (q.1 * t.n, q.2 * t.a) := fun q => if_pos c
      rw [h1, h1]
      simp only [Int.one_mul, Int.mul_assoc]
    · have h1 : ∀ q : Int × Int, prS e q t = q := fun q => if_neg c
      rw [h1, h1]
      simp only [Int.one_mul]
theorem prT_split (l : List Tu) (i : Nat) (e : Int) : prT l e = ((prT (l.take i) e).1 * (prT (l.drop i) e).1, (prT (l.take i) e).2 * (prT (l.drop i) e).2) := by
  have h : prT l e = (l.drop i).foldl (prS e) (prT (l.take i) e) := by
    unfold prT
    rw [← List.foldl_append, List.take_append_drop]
  rw [h, pr_from]
theorem prT_none {l : List Tu} {e : Int} (h : ∀ t, t ∈ l → ¬ InT t e) : prT l e = (1, 1) := by
  unfold prT
  induction l with
  | nil => rfl
  | cons t l ih =>
    rw [List.foldl_cons, show prS e (1, 1) t = (1, 1) from if_neg (h t (by simp))]
    exact ih (fun u hu => h u (by simp [hu]))
theorem pr_okD {ev : Int} {l : List Tu} (h : ckT ev l = 0) (e : Int) (j i : Nat) : (1 ≤ (prT ((l.drop j).take i) e).1 ∧ (prT ((l.drop j).take i) e).1 ≤ 32768) ∧ (1 ≤ (prT ((l.drop j).take i) e).2 ∧ (prT ((l.drop j).take i) e).2 ≤ 32768) := by
  obtain ⟨_, _, _, hr, h3⟩ := ckT_ok h
  have hsub : ((l.drop j).take i).Sublist l := (List.take_sublist _ _).trans (List.drop_sublist _ _)
  have hb := pr_bd (e := e) ((l.drop j).take i) (1, 1) 0 (fun t ht => by have := hr t (hsub.subset ht); exact ⟨this.2.2.2.1, this.2.2.2.2.1⟩) ⟨by decide, by decide⟩ ⟨by decide, by decide⟩
  have hle : (((l.drop j).take i).filter (fun t => decide (InT t e))).length ≤ 3 := Nat.le_trans (hsub.filter _).length_le (h3 e)
  have hm : p32 (0 + (((l.drop j).take i).filter (fun t => decide (InT t e))).length) ≤ 32768 := Int.le_trans (p32_mono (b := 3) (by omega)) (by decide)
  unfold prT
  exact ⟨⟨hb.1.1, Int.le_trans hb.1.2 hm⟩, ⟨hb.2.1, Int.le_trans hb.2.2 hm⟩⟩
/-- a sum over the events of a tuplet, up to an event -/
def sumU (t : Tu) (g : Nat → Int) : Nat → Int
  | 0 => 0
  | e + 1 => sumU t g e + if InT t e then g e else 0
theorem sumU_low {t : Tu} {g : Nat → Int} : ∀ e : Nat, (e : Int) ≤ t.f → sumU t g e = 0
  | 0, _ => rfl
  | e + 1, h => by
    rw [sumU, sumU_low e (by omega), if_neg (fun c => by have := c.1; omega)]
    rfl
theorem sumU_high {t : Tu} {g : Nat → Int} {m : Nat} (hm : en t ≤ m) : ∀ d : Nat, sumU t g (m + d) = sumU t g m
  | 0 => rfl
  | d + 1 => by
    rw [← Nat.add_assoc, sumU, sumU_high hm d, if_neg (fun c => by have := c.2; omega), Int.add_zero]
theorem sumU_scale {t : Tu} {g h : Nat → Int} {a n : Int} {E : Nat} : ∀ m : Nat, m ≤ E → (∀ e : Nat, e < E → InT t e → h e * a = g e * n) → sumU t h m * a = sumU t g m * n
  | 0, _, _ => by simp [sumU]
  | m + 1, hm, hh => by
    rw [sumU, sumU, Int.add_mul, Int.add_mul, sumU_scale m (by omega) hh]
    by_cases c : InT t m
    · rw [if_pos c, if_pos c, hh m (by omega) c]
    · rw [if_neg c, if_neg c, Int.zero_mul, Int.zero_mul]
/-- no earlier tuplet contains an event of one that is within none of them -/
theorem outer_none {ev : Int} {l : List Tu} {i : Nat} {t : Tu} (h : ckT ev l = 0) (hi : l[i]? = some t) (ho : ∀ k, k ∈ l.take i → ¬ Wi t k) {e : Int} (he : InT t e) : ∀ k, k ∈ l.take i → ¬ InT k e := by
  obtain ⟨_, _, e3, v1, _⟩ := ckT_ok h
  obtain ⟨_, v2, v3, _⟩ := val_lam.1 (val_iff.1 e3)
  intro k hk hke
  obtain ⟨j, hj, rfl⟩ := List.mem_take_iff_getElem.1 hk
  obtain ⟨hil, rfl⟩ := List.getElem?_eq_some_iff.1 hi
  have h1 := List.pairwise_iff_getElem.1 v2 j i (by omega) hil (by omega)
  have h2 := List.pairwise_iff_getElem.1 v3 j i (by omega) hil (by omega)
  have h3 := ho _ hk
  unfold Aft at h1
  unfold Lam at h2
  unfold Wi at h3
  unfold InT at he hke
  unfold en at *
  omega
/-- the length of an event of an outermost tuplet, and its length within it -/
theorem len_outer {ev : Int} {l : List Tu} {i : Nat} {t : Tu} (h : ckT ev l = 0) (hi : l[i]? = some t) (ho : ∀ k, k ∈ l.take i → ¬ Wi t k) {e w : Int} (he : InT t e) (hw : 0 ≤ w ∧ w ≤ 7741440) (h1 : lenE l e w = 0) (h2 : lenE (l.drop (i + 1)) e w = 0) : lenV l e w * t.a = lenV (l.drop (i + 1)) e w * t.n := by
  obtain ⟨hil, ht⟩ := List.getElem?_eq_some_iff.1 hi
  have hp := pr_okD h e (i + 1) (l.length)
  rw [List.take_of_length_le (by rw [List.length_drop]; omega)] at hp
  have hs : prT l e = (t.n * (prT (l.drop (i + 1)) e).1, t.a * (prT (l.drop (i + 1)) e).2) := by
    rw [prT_split l (i + 1) e, pr_next e hi, prT_none (outer_none h hi ho he)]
    unfold prS
    rw [if_pos he]
    simp only [Int.one_mul]
  have hta : Rt t.a := ((ckT_ok h).2.2.2.1 t (List.mem_of_getElem? hi)).2.2.2.1
  unfold lenE at h1 h2
  rw [if_pos hw] at h1 h2
  unfold lenV
  rw [if_pos hw, if_pos hw]
  rw [hs] at h1 ⊢
  dsimp only at h1 ⊢
  generalize (prT (l.drop (i + 1)) e).1 = N at *
  generalize (prT (l.drop (i + 1)) e).2 = D at *
  by_cases c1 : w * (t.n * N) % (t.a * D) = 0
  · by_cases c2 : w * N % D = 0
    · rw [if_pos c1, if_pos c2]
      obtain ⟨q, hq⟩ := Int.dvd_of_emod_eq_zero c2
      obtain ⟨r, hr⟩ := Int.dvd_of_emod_eq_zero c1
      have hD : D ≠ 0 := by omega
      have haD : t.a * D ≠ 0 := Int.mul_ne_zero (by unfold Rt at hta; omega) hD
      rw [hq, hr, Int.mul_ediv_cancel_left _ hD, Int.mul_ediv_cancel_left _ haD]
      have e1 : w * (t.n * N) = t.n * (w * N) := by rw [← Int.mul_assoc, Int.mul_comm w t.n, Int.mul_assoc]
      rw [e1, hq] at hr
      have e2 : D * (q * t.n) = D * (r * t.a) := by
        have : D * (q * t.n) = t.n * (D * q) := by rw [Int.mul_comm q t.n, ← Int.mul_assoc, Int.mul_comm D t.n, Int.mul_assoc]
        rw [this, hr, Int.mul_comm t.a D, Int.mul_assoc, Int.mul_comm t.a r]
      exact (Int.eq_of_mul_eq_mul_left hD e2).symm
    · rw [if_neg c2] at h2; exact absurd h2 (by decide)
  · rw [if_neg c1] at h1; exact absurd h1 (by decide)
/-- a fraction in lowest terms -/
theorem low_terms {N D : Nat} (hN : 0 < N) (hD : 0 < D) : N / Nat.gcd N D * D = D / Nat.gcd N D * N ∧ Nat.gcd (N / Nat.gcd N D) (D / Nat.gcd N D) = 1 ∧ 0 < N / Nat.gcd N D ∧ 0 < D / Nat.gcd N D := by
  have hg : 0 < Nat.gcd N D := Nat.gcd_pos_of_pos_left _ hN
  obtain ⟨a, ha⟩ := Nat.gcd_dvd_left N D
  obtain ⟨b, hb⟩ := Nat.gcd_dvd_right N D
  have ea : N / Nat.gcd N D = a := Nat.div_eq_of_eq_mul_right hg ha
  have eb : D / Nat.gcd N D = b := Nat.div_eq_of_eq_mul_right hg hb
  refine ⟨?_, Nat.gcd_div_gcd_div_gcd_of_pos_left hN, Nat.div_pos (Nat.le_of_dvd hN (Nat.gcd_dvd_left N D)) hg, Nat.div_pos (Nat.le_of_dvd hD (Nat.gcd_dvd_right N D)) hg⟩
  rw [ea, eb]
  calc a * D = a * (Nat.gcd N D * b) := by rw [← hb]
    _ = b * (Nat.gcd N D * a) := by rw [Nat.mul_left_comm, Nat.mul_left_comm b, Nat.mul_comm a b]
    _ = b * N := by rw [← ha]
end Go.Proofs.Ytabaiklagobimaa
