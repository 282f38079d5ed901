namespace Go.Proofs.YthengbhokamhbaaDoor.QM

/-- the greatest common divisor of the magnitudes -/
def gc (n d : Int) : Nat := Nat.gcd n.natAbs d.natAbs
/-- the error of the fraction n / d -/
def oE (n d : Int) : Int := if d = 0 then 15 else if 1073741824 < n.natAbs / gc n d ∨ 1073741824 < d.natAbs / gc n d then 14 else 0
/-- its numerator -/
def oN (n d : Int) : Int := if oE n d = 0 then (if (n < 0) = (d < 0) then ((n.natAbs / gc n d : Nat) : Int) else -((n.natAbs / gc n d : Nat) : Int)) else 0
/-- its denominator -/
def oD (n d : Int) : Int := if oE n d = 0 then ((d.natAbs / gc n d : Nat) : Int) else 1

theorem oE_cases (n d : Int) : oE n d = 0 ∨ oE n d = 14 ∨ oE n d = 15 := by
  unfold oE
  split
  · exact Or.inr (Or.inr rfl)
  · split
    · exact Or.inr (Or.inl rfl)
    · exact Or.inl rfl

theorem gc_pos {n d : Int} (h : d ≠ 0) : 0 < gc n d := by
  unfold gc; exact Nat.gcd_pos_of_pos_right _ (by omega)

theorem oE_zero {n d : Int} (h : oE n d = 0) : d ≠ 0 ∧ n.natAbs / gc n d ≤ 1073741824 ∧ d.natAbs / gc n d ≤ 1073741824 := by
  unfold oE at h
  split at h
  · simp at h
  · split at h
    · simp at h
    · omega

theorem oN_bd (n d : Int) : -1073741824 ≤ oN n d ∧ oN n d ≤ 1073741824 := by
  unfold oN
  split
  · rename_i h
    obtain ⟨_, h2, _⟩ := oE_zero h
    generalize n.natAbs / gc n d = q at h2
    split <;> omega
  · omega

theorem dq_pos {n d : Int} (h : d ≠ 0) : 1 ≤ d.natAbs / gc n d := by
  have hd : gc n d ∣ d.natAbs := Nat.gcd_dvd_right _ _
  have := Nat.div_pos (Nat.le_of_dvd (by omega) hd) (gc_pos h)
  exact this

theorem oD_bd (n d : Int) : 1 ≤ oD n d ∧ oD n d ≤ 1073741824 := by
  unfold oD
  split
  · rename_i h
    have := oE_zero h
    have := @dq_pos n d this.1
    omega
  · omega

theorem o_bad {n d : Int} (h : oE n d ≠ 0) : oN n d = 0 ∧ oD n d = 1 := by
  unfold oN oD; simp [h]

theorem o_cop (n d : Int) : Nat.gcd (oN n d).natAbs (oD n d).natAbs = 1 := by
  unfold oN oD
  split
  · rename_i h
    have hc : Nat.Coprime (n.natAbs / gc n d) (d.natAbs / gc n d) := Nat.coprime_div_gcd_div_gcd (gc_pos (oE_zero h).1)
    generalize n.natAbs / gc n d = q at hc
    generalize d.natAbs / gc n d = r at hc
    split
    · exact hc
    · rw [Int.natAbs_neg]; exact hc
  · simp

theorem natAbs_parts (n d : Int) : n.natAbs / gc n d * gc n d = n.natAbs ∧ d.natAbs / gc n d * gc n d = d.natAbs :=
  ⟨Nat.div_mul_cancel (Nat.gcd_dvd_left _ _), Nat.div_mul_cancel (Nat.gcd_dvd_right _ _)⟩

theorem sgn (n : Int) : n = if n < 0 then -(n.natAbs : Int) else (n.natAbs : Int) := by split <;> omega

theorem o_cross {n d : Int} (h : oE n d = 0) : oN n d * d = n * oD n d := by
  unfold oN oD
  simp only [h, if_true]
  obtain ⟨e1, e2⟩ := natAbs_parts n d
  generalize n.natAbs / gc n d = a at *
  generalize d.natAbs / gc n d = b at *
  generalize gc n d = g at *
  have k : ((a : Int) * (d.natAbs : Int)) = (n.natAbs : Int) * (b : Int) := by
    rw [← e1, ← e2]; push_cast; rw [Int.mul_assoc, Int.mul_comm (g : Int) b]
  by_cases hn : n < 0 <;> by_cases hd : d < 0
  · have s1 : n = -(n.natAbs : Int) := by omega
    have s2 : d = -(d.natAbs : Int) := by omega
    simp only [hn, hd, if_true]
    generalize n.natAbs = x at *; generalize d.natAbs = y at *
    subst s1 s2
    rw [Int.mul_neg, Int.neg_mul, k]
  · have s1 : n = -(n.natAbs : Int) := by omega
    have s2 : d = (d.natAbs : Int) := by omega
    simp only [hn, hd]
    simp
    generalize n.natAbs = x at *; generalize d.natAbs = y at *
    subst s1 s2
    rw [Int.neg_mul, Int.neg_mul, k]
  · have s1 : n = (n.natAbs : Int) := by omega
    have s2 : d = -(d.natAbs : Int) := by omega
    simp only [hn, hd]
    simp
    generalize n.natAbs = x at *; generalize d.natAbs = y at *
    subst s1 s2
    rw [Int.mul_neg, Int.neg_mul, Int.neg_neg, k]
  · have s1 : n = (n.natAbs : Int) := by omega
    have s2 : d = (d.natAbs : Int) := by omega
    simp only [hn, hd, if_true]
    generalize n.natAbs = x at *; generalize d.natAbs = y at *
    subst s1 s2
    exact k

/-- two pairs of natural numbers in lowest terms with the same quotient are the same pair -/
theorem cop_unique {a b c d : Nat} (h1 : Nat.Coprime a b) (h2 : Nat.Coprime c d) (hb : 0 < b) (hd : 0 < d) (h : a * d = c * b) : a = c ∧ b = d := by
  have hbd : b ∣ d := by
    refine Nat.Coprime.dvd_of_dvd_mul_left (m := a) h1.symm ?_
    exact ⟨c, by rw [h, Nat.mul_comm]⟩
  have hdb : d ∣ b := by
    refine Nat.Coprime.dvd_of_dvd_mul_left (m := c) h2.symm ?_
    exact ⟨a, by rw [← h, Nat.mul_comm]⟩
  have e : b = d := Nat.dvd_antisymm hbd hdb
  subst e
  exact ⟨Nat.eq_of_mul_eq_mul_right hb h, rfl⟩

theorem o_quot {n d n' d' : Int} (hd : d ≠ 0) (hd' : d' ≠ 0) (h : n * d' = n' * d) :
    n.natAbs / gc n d = n'.natAbs / gc n' d' ∧ d.natAbs / gc n d = d'.natAbs / gc n' d' := by
  refine cop_unique (Nat.coprime_div_gcd_div_gcd (gc_pos hd)) (Nat.coprime_div_gcd_div_gcd (gc_pos hd')) (dq_pos hd) (dq_pos hd') ?_
  have hA : n.natAbs * d'.natAbs = n'.natAbs * d.natAbs := by rw [← Int.natAbs_mul, ← Int.natAbs_mul, h]
  obtain ⟨e1, e2⟩ := natAbs_parts n d
  obtain ⟨e3, e4⟩ := natAbs_parts n' d'
  have p1 := @gc_pos n d hd
  have p2 := @gc_pos n' d' hd'
  show n.natAbs / gc n d * (d'.natAbs / gc n' d') = n'.natAbs / gc n' d' * (d.natAbs / gc n d)
  generalize n.natAbs / gc n d = a at *
  generalize d.natAbs / gc n d = b at *
  generalize gc n d = g at *
  generalize n'.natAbs / gc n' d' = a' at *
  generalize d'.natAbs / gc n' d' = b' at *
  generalize gc n' d' = g' at *
  rw [← e1, ← e2, ← e3, ← e4] at hA
  have : (a * b') * (g * g') = (a' * b) * (g * g') := by
    calc (a * b') * (g * g') = a * g * (b' * g') := by ac_rfl
      _ = a' * g' * (b * g) := hA
      _ = (a' * b) * (g * g') := by ac_rfl
  exact Nat.eq_of_mul_eq_mul_right (Nat.mul_pos p1 p2) this

theorem sign_same {n d n' d' : Int} (hd : d ≠ 0) (hd' : d' ≠ 0) (hn : n ≠ 0) (h : n * d' = n' * d) :
    ((n < 0) = (d < 0)) = ((n' < 0) = (d' < 0)) := by
  have hn' : n' ≠ 0 := by
    rintro rfl
    rw [Int.zero_mul] at h
    rcases Int.mul_eq_zero.1 h with h | h <;> contradiction
  have key : (0 < n * d') ↔ (0 < n' * d) := by rw [h]
  have pos : ∀ a b : Int, a ≠ 0 → b ≠ 0 → ((0 < a * b) ↔ ((a < 0) ↔ (b < 0))) := by
    intro a b ha hb
    rcases Int.lt_or_gt_of_ne ha with ha | ha <;> rcases Int.lt_or_gt_of_ne hb with hb | hb
    · have := Int.mul_pos_of_neg_of_neg ha hb
      simp [ha, hb, this]
    · have := Int.mul_neg_of_neg_of_pos ha hb
      constructor
      · intro; omega
      · intro hh; have := hh.1 ha; omega
    · have := Int.mul_neg_of_pos_of_neg ha hb
      constructor
      · intro; omega
      · intro hh; have := hh.2 hb; omega
    · have := Int.mul_pos ha hb
      constructor
      · intro; omega
      · intro; exact this
  rw [pos n d' hn hd', pos n' d hn' hd] at key
  clear pos h
  by_cases a : n < 0 <;> by_cases b : d < 0 <;> by_cases c : n' < 0 <;> by_cases f : d' < 0 <;> simp only [a, b, c, f] at key ⊢ <;> first | (simp at key; done) | rfl | trivial

/-- fractions with the same value have the same form -/
theorem o_congr {n d n' d' : Int} (hd : d ≠ 0) (hd' : d' ≠ 0) (h : n * d' = n' * d) :
    oE n d = oE n' d' ∧ oN n d = oN n' d' ∧ oD n d = oD n' d' := by
  obtain ⟨e1, e2⟩ := o_quot hd hd' h
  have hE : oE n d = oE n' d' := by unfold oE; rw [if_neg hd, if_neg hd', e1, e2]
  refine ⟨hE, ?_, ?_⟩
  · unfold oN
    rw [hE, e1]
    by_cases hn : n = 0
    · subst hn
      have : n'.natAbs / gc n' d' = 0 := by rw [← e1]; simp
      rw [this]; simp
    · have s := sign_same hd hd' hn h
      simp only [s]
  · unfold oD; rw [hE, e2]

/-- a fraction in lowest terms within the limits is its own form -/
theorem o_self {N D : Int} (h1 : -1073741824 ≤ N) (h2 : N ≤ 1073741824) (h3 : 1 ≤ D) (h4 : D ≤ 1073741824) (hg : Nat.gcd N.natAbs D.natAbs = 1) :
    oE N D = 0 ∧ oN N D = N ∧ oD N D = D := by
  have hgc : gc N D = 1 := hg
  have hE : oE N D = 0 := by unfold oE; rw [hgc, if_neg (by omega), if_neg (by simp; omega)]
  refine ⟨hE, ?_, ?_⟩
  · unfold oN; rw [if_pos hE, hgc]
    by_cases hn : N < 0
    · rw [if_neg (by simp [hn]; omega)]; simp; omega
    · rw [if_pos (by simp [hn]; omega)]; simp; omega
  · unfold oD; rw [if_pos hE, hgc]; simp; omega

/-- whether a fraction is within the limits hangs on its value alone; so a value that has a form within the limits has it -/
theorem o_found {n d N D : Int} (hd : d ≠ 0) (h1 : -1073741824 ≤ N) (h2 : N ≤ 1073741824) (h3 : 1 ≤ D) (h4 : D ≤ 1073741824) (hg : Nat.gcd N.natAbs D.natAbs = 1) (h : n * D = N * d) :
    oE n d = 0 ∧ oN n d = N ∧ oD n d = D := by
  obtain ⟨a, b, c⟩ := o_congr hd (by omega : D ≠ 0) h
  obtain ⟨x, y, z⟩ := o_self h1 h2 h3 h4 hg
  exact ⟨a.trans x, b.trans y, c.trans z⟩
end Go.Proofs.YthengbhokamhbaaDoor.QM
