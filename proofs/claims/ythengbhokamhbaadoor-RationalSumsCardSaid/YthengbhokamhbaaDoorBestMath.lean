namespace Go.Proofs.YthengbhokamhbaaDoor.QB
def ab (x : Int) : Int := if x < 0 then -x else x
theorem ab_nonneg (x : Int) : 0 ≤ ab x := by unfold ab; split <;> omega
theorem ab_pos {x : Int} (h : 0 ≤ x) : ab x = x := by unfold ab; rw [if_neg (by omega)]
theorem ab_neg {x : Int} (h : x ≤ 0) : ab x = -x := by unfold ab; split <;> omega

/-- the fraction p / q is nearer to N / D than a / c, or as near, and then it comes first (denominator, numerator) -/
def Le (N D p q a c : Int) : Prop := ab (N * q - p * D) * c < ab (N * c - a * D) * q ∨ (ab (N * q - p * D) * c = ab (N * c - a * D) * q ∧ (q < c ∨ (q = c ∧ p ≤ a)))
def IsBest (N D m p q : Int) : Prop := 1 ≤ q ∧ q ≤ m ∧ ∀ a c : Int, 1 ≤ c → c ≤ m → Le N D p q a c

theorem best_unique {N D m p q p' q' : Int} (h : IsBest N D m p q) (h' : IsBest N D m p' q') : p = p' ∧ q = q' := by
  have a := h.2.2 p' q' h'.1 h'.2.1
  have b := h'.2.2 p q h.1 h.2.1
  unfold Le at a b
  omega

/-- a bracket round N / D -/
structure Br (N D ln ld lg hn hd hg : Int) : Prop where
  det : hn * ld - ln * hd = 1
  lgap : lg = N * ld - ln * D
  hgap : hg = hn * D - N * hd
  lpos : 0 < lg
  hpos : 0 < hg
  ld1 : 1 ≤ ld
  hd1 : 1 ≤ hd

theorem between {ln ld hn hd a c : Int} (det : hn * ld - ln * hd = 1) (h1 : 1 ≤ ld) (h2 : 1 ≤ hd) (l : ln * c < a * ld) (r : a * hd < hn * c) : ld + hd ≤ c := by
  have e : c = ld * (hn * c - a * hd) + hd * (a * ld - ln * c) := by grind
  have x : ld * 1 ≤ ld * (hn * c - a * hd) := Int.mul_le_mul_of_nonneg_left (by omega) (by omega)
  have y : hd * 1 ≤ hd * (a * ld - ln * c) := Int.mul_le_mul_of_nonneg_left (by omega) (by omega)
  omega

/-- below the bracket's lower end -/
theorem below_low {N D ln ld lg hn hd hg a c : Int} (B : Br N D ln ld lg hn hd hg) (hD : 1 ≤ D) (hc : 1 ≤ c) (h : a * ld ≤ ln * c) :
    ab (N * c - a * D) = N * c - a * D ∧ lg * c ≤ (N * c - a * D) * ld ∧ (lg * c = (N * c - a * D) * ld → ld ≤ c ∧ (ld = c → ln = a)) := by
  have e : (N * c - a * D) * ld = lg * c + D * (ln * c - a * ld) := by have := B.lgap; grind
  have x : 0 ≤ D * (ln * c - a * ld) := Int.mul_nonneg (by omega) (by omega)
  have y : 0 < lg * c := Int.mul_pos B.lpos (by omega)
  have ps : 0 < (N * c - a * D) * ld := by omega
  have t : 0 < N * c - a * D := Int.pos_of_mul_pos_left ps (by have := B.ld1; omega)
  refine ⟨ab_pos (by omega), by omega, fun he => ?_⟩
  have z : D * (ln * c - a * ld) = 0 := by omega
  have z' : ln * c - a * ld = 0 := by
    rcases Int.mul_eq_zero.1 z with z | z <;> omega
  have s : c = ld * (hn * c - hd * a) := by have := B.det; grind
  have sp : 0 < hn * c - hd * a := by
    have : 0 < ld * (hn * c - hd * a) := by omega
    exact Int.pos_of_mul_pos_right this (by have := B.ld1; omega)
  refine ⟨?_, fun hl => ?_⟩
  · have : ld * 1 ≤ ld * (hn * c - hd * a) := Int.mul_le_mul_of_nonneg_left (by omega) (by have := B.ld1; omega)
    omega
  · subst hl
    have : (ln - a) * ld = 0 := by grind
    rcases Int.mul_eq_zero.1 this with z | z
    · omega
    · have := B.ld1; omega

/-- above the bracket's upper end -/
theorem above_high {N D ln ld lg hn hd hg a c : Int} (B : Br N D ln ld lg hn hd hg) (hD : 1 ≤ D) (hc : 1 ≤ c) (h : hn * c ≤ a * hd) :
    ab (N * c - a * D) = a * D - N * c ∧ hg * c ≤ (a * D - N * c) * hd ∧ (hg * c = (a * D - N * c) * hd → hd ≤ c ∧ (hd = c → hn = a)) := by
  have e : (a * D - N * c) * hd = hg * c + D * (a * hd - hn * c) := by have := B.hgap; grind
  have x : 0 ≤ D * (a * hd - hn * c) := Int.mul_nonneg (by omega) (by omega)
  have y : 0 < hg * c := Int.mul_pos B.hpos (by omega)
  have ps : 0 < (a * D - N * c) * hd := by omega
  have t : 0 < a * D - N * c := Int.pos_of_mul_pos_left ps (by have := B.hd1; omega)
  refine ⟨?_, by omega, fun he => ?_⟩
  · rw [ab_neg (by omega)]; omega
  have z : D * (a * hd - hn * c) = 0 := by omega
  have z' : a * hd - hn * c = 0 := by
    rcases Int.mul_eq_zero.1 z with z | z <;> omega
  have s : c = hd * (ld * a - ln * c) := by have := B.det; grind
  have sp : 0 < ld * a - ln * c := by
    have : 0 < hd * (ld * a - ln * c) := by omega
    exact Int.pos_of_mul_pos_right this (by have := B.hd1; omega)
  refine ⟨?_, fun hl => ?_⟩
  · have : hd * 1 ≤ hd * (ld * a - ln * c) := Int.mul_le_mul_of_nonneg_left (by omega) (by have := B.hd1; omega)
    omega
  · subst hl
    have : (hn - a) * hd = 0 := by grind
    rcases Int.mul_eq_zero.1 this with z | z
    · omega
    · have := B.hd1; omega

theorem best_high {N D m ln ld lg hn hd hg : Int} (B : Br N D ln ld lg hn hd hg) (hD : 1 ≤ D) (hm : m < ld + hd) (hhm : hd ≤ m)
    (hb : hg * ld < lg * hd ∨ (hg * ld = lg * hd ∧ hd < ld)) : IsBest N D m hn hd := by
  refine ⟨B.hd1, hhm, fun a c h1 hc => ?_⟩
  have hl1 := B.ld1
  have hh1 := B.hd1
  have eh : ab (N * hd - hn * D) = hg := by rw [ab_neg (by have := B.hgap; have := B.hpos; omega)]; have := B.hgap; omega
  unfold Le
  rw [eh]
  by_cases l : ln * c < a * ld
  · by_cases r : a * hd < hn * c
    · have := between B.det B.ld1 B.hd1 l r; omega
    · obtain ⟨u1, u2, u3⟩ := above_high B hD h1 (by omega : hn * c ≤ a * hd)
      rw [u1]
      rcases Int.lt_or_eq_of_le u2 with v | v
      · exact Or.inl v
      · obtain ⟨w1, w2⟩ := u3 v
        refine Or.inr ⟨v, ?_⟩
        rcases Int.lt_or_eq_of_le w1 with x | x
        · exact Or.inl x
        · exact Or.inr ⟨x, by rw [w2 x]; omega⟩
  · obtain ⟨u1, u2, u3⟩ := below_low B hD h1 (by omega : a * ld ≤ ln * c)
    rw [u1]
    generalize N * c - a * D = t at *
    -- hg c ld ≤ lg hd c ≤ t ld hd
    have s2 : lg * c * hd ≤ t * ld * hd := Int.mul_le_mul_of_nonneg_right u2 (by omega)
    rcases hb with hb | ⟨hb, hlt⟩
    · left
      have s1 : hg * ld * c < lg * hd * c := Int.mul_lt_mul_of_pos_right hb (by omega)
      have s3 : (hg * c) * ld < (t * hd) * ld := by
        have : lg * hd * c = lg * c * hd := by grind
        have : t * ld * hd = (t * hd) * ld := by grind
        have : hg * ld * c = (hg * c) * ld := by grind
        omega
      exact Int.lt_of_mul_lt_mul_right s3 (by omega)
    · have s1 : hg * ld * c = lg * hd * c := by rw [hb]
      have s3 : (hg * c) * ld ≤ (t * hd) * ld := by
        have : lg * hd * c = lg * c * hd := by grind
        have : t * ld * hd = (t * hd) * ld := by grind
        have : hg * ld * c = (hg * c) * ld := by grind
        omega
      have s4 : hg * c ≤ t * hd := Int.le_of_mul_le_mul_right s3 (by omega)
      rcases Int.lt_or_eq_of_le s4 with v | v
      · exact Or.inl v
      · right
        refine ⟨v, Or.inl ?_⟩
        have k : lg * c = t * ld := by
          have k1 : (lg * c) * hd = (t * ld) * hd := by
            have : lg * hd * c = lg * c * hd := by grind
            have : (hg * c) * ld = (t * hd) * ld := by rw [v]
            have : t * ld * hd = (t * hd) * ld := by grind
            have : hg * ld * c = (hg * c) * ld := by grind
            omega
          exact Int.eq_of_mul_eq_mul_right (by omega) k1
        have := (u3 k).1
        omega

theorem best_low {N D m ln ld lg hn hd hg : Int} (B : Br N D ln ld lg hn hd hg) (hD : 1 ≤ D) (hm : m < ld + hd) (hlm : ld ≤ m)
    (hb : lg * hd < hg * ld ∨ (hg * ld = lg * hd ∧ ld ≤ hd)) : IsBest N D m ln ld := by
  refine ⟨B.ld1, hlm, fun a c h1 hc => ?_⟩
  have hl1 := B.ld1
  have hh1 := B.hd1
  have eh : ab (N * ld - ln * D) = lg := by rw [ab_pos (by have := B.lgap; have := B.lpos; omega)]; have := B.lgap; omega
  unfold Le
  rw [eh]
  by_cases r : a * hd < hn * c
  · by_cases l : ln * c < a * ld
    · have := between B.det B.ld1 B.hd1 l r; omega
    · obtain ⟨u1, u2, u3⟩ := below_low B hD h1 (by omega : a * ld ≤ ln * c)
      rw [u1]
      rcases Int.lt_or_eq_of_le u2 with v | v
      · exact Or.inl v
      · obtain ⟨w1, w2⟩ := u3 v
        refine Or.inr ⟨v, ?_⟩
        rcases Int.lt_or_eq_of_le w1 with x | x
        · exact Or.inl x
        · exact Or.inr ⟨x, by rw [w2 x]; omega⟩
  · obtain ⟨u1, u2, u3⟩ := above_high B hD h1 (by omega : hn * c ≤ a * hd)
    have hah : hn * c ≤ a * hd := by omega
    rw [u1]
    have hgt : ln * c < a * ld := by
      -- a/c is at least the upper end, which is beyond the lower end
      have e : (a * ld - ln * c) * hd = ld * (a * hd - hn * c) + c := by have := B.det; grind
      have p : 0 ≤ ld * (a * hd - hn * c) := Int.mul_nonneg (by omega) (by omega)
      have q : 0 < (a * ld - ln * c) * hd := by omega
      have := Int.pos_of_mul_pos_left q (by omega)
      omega
    generalize ht : a * D - N * c = t at *
    have s2 : hg * c * ld ≤ t * hd * ld := Int.mul_le_mul_of_nonneg_right u2 (by omega)
    rcases hb with hb | ⟨hb, hlt⟩
    · left
      have s1 : lg * hd * c < hg * ld * c := Int.mul_lt_mul_of_pos_right hb (by omega)
      have s3 : (lg * c) * hd < (t * ld) * hd := by
        have : lg * hd * c = lg * c * hd := by grind
        have : t * ld * hd = (t * hd) * ld := by grind
        have : hg * ld * c = (hg * c) * ld := by grind
        omega
      exact Int.lt_of_mul_lt_mul_right s3 (by omega)
    · have s1 : hg * ld * c = lg * hd * c := by rw [hb]
      have s3 : (lg * c) * hd ≤ (t * ld) * hd := by
        have : lg * hd * c = lg * c * hd := by grind
        have : t * ld * hd = (t * hd) * ld := by grind
        have : hg * ld * c = (hg * c) * ld := by grind
        omega
      have s4 : lg * c ≤ t * ld := Int.le_of_mul_le_mul_right s3 (by omega)
      rcases Int.lt_or_eq_of_le s4 with v | v
      · exact Or.inl v
      · right
        have k : hg * c = t * hd := by
          have k1 : (hg * c) * ld = (t * hd) * ld := by
            have : lg * hd * c = lg * c * hd := by grind
            have : (lg * c) * hd = (t * ld) * hd := by rw [v]
            have : t * ld * hd = (t * hd) * ld := by grind
            have : hg * ld * c = (hg * c) * ld := by grind
            omega
          exact Int.eq_of_mul_eq_mul_right (by omega) k1
        obtain ⟨w1, w2⟩ := u3 k
        refine ⟨v, ?_⟩
        by_cases hx : ld < c
        · exact Or.inl hx
        · right
          have hlc : ld = c := by omega
          have hhc : hd = c := by omega
          refine ⟨hlc, ?_⟩
          -- ln * c < a * c
          rw [hlc] at hgt
          have := Int.lt_of_mul_lt_mul_right hgt (by omega)
          omega

/-- a fraction whose own denominator is small is its own best approximation -/
theorem best_self {N D m : Int} (hD : 1 ≤ D) (hm : D ≤ m) (hg : Nat.gcd N.natAbs D.natAbs = 1) : IsBest N D m N D := by
  refine ⟨hD, hm, fun a c h1 hc => ?_⟩
  unfold Le
  have e : ab (N * D - N * D) = 0 := by unfold ab; simp
  rw [e]
  have hn := ab_nonneg (N * c - a * D)
  rcases Int.lt_or_eq_of_le hn with h | h
  · left; have := Int.mul_pos h (by omega : (0:Int) < D); omega
  · right
    rw [← h]
    refine ⟨by simp, ?_⟩
    have z : N * c = a * D := by
      have : ab (N * c - a * D) = 0 := h.symm
      unfold ab at this; split at this <;> omega
    have dv : D.natAbs ∣ c.natAbs := by
      refine Nat.Coprime.dvd_of_dvd_mul_left (m := N.natAbs) (by rw [Nat.Coprime, Nat.gcd_comm]; exact hg) ?_
      exact ⟨a.natAbs, by rw [← Int.natAbs_mul, z, Int.natAbs_mul, Nat.mul_comm]⟩
    have le := Nat.le_of_dvd (by omega) dv
    by_cases hx : D < c
    · exact Or.inl hx
    · right
      have hc : D = c := by omega
      refine ⟨hc, ?_⟩
      subst hc
      have := Int.eq_of_mul_eq_mul_right (by omega) z
      omega

theorem floor_lt {N D : Int} (hD : 1 ≤ D) : N / D * D ≤ N ∧ N < (N / D + 1) * D := by
  have h := Int.mul_ediv_add_emod N D
  have h1 := Int.emod_nonneg N (by omega : D ≠ 0)
  have h2 := Int.emod_lt_of_pos N (by omega : 0 < D)
  have e : N / D * D = D * (N / D) := Int.mul_comm _ _
  have e2 : (N / D + 1) * D = D * (N / D) + D := by grind
  omega

theorem no_small {N D ln ld : Int} (hg : Nat.gcd N.natAbs D.natAbs = 1) (h1 : 1 ≤ ld) (h2 : ld < D) : N * ld - ln * D ≠ 0 := by
  intro h
  have z : N * ld = ln * D := by omega
  have dv : D.natAbs ∣ ld.natAbs := by
    refine Nat.Coprime.dvd_of_dvd_mul_left (m := N.natAbs) (by rw [Nat.Coprime, Nat.gcd_comm]; exact hg) ?_
    exact ⟨ln.natAbs, by rw [← Int.natAbs_mul, z, Int.natAbs_mul, Nat.mul_comm]⟩
  have le := Nat.le_of_dvd (by omega) dv
  omega

theorem br_start {N D : Int} (hg : Nat.gcd N.natAbs D.natAbs = 1) (h : 1 < D) :
    Br N D (N / D) 1 (N - N / D * D) (N / D + 1) 1 (D - (N - N / D * D)) := by
  obtain ⟨h1, h2⟩ := @floor_lt N D (by omega)
  have h3 := @no_small N D (N / D) 1 hg (by omega) (by omega)
  have e2 : (N / D + 1) * D = N / D * D + D := by grind
  exact ⟨by omega, by omega, by omega, by omega, by omega, by omega, by omega⟩

theorem br_low {N D m ln ld lg hn hd hg k : Int} (hgc : Nat.gcd N.natAbs D.natAbs = 1) (B : Br N D ln ld lg hn hd hg) (hk : 0 ≤ k) (h1 : k * hg ≤ lg) (h2 : ld + k * hd ≤ m) (hm : m < D) :
    Br N D (ln + k * hn) (ld + k * hd) (lg - k * hg) hn hd hg := by
  obtain ⟨d, l, h, lp, hp, l1, h1'⟩ := B
  have hkd : 0 ≤ k * hd := Int.mul_nonneg hk (by omega)
  have e : lg - k * hg = N * (ld + k * hd) - (ln + k * hn) * D := by grind
  have ns := @no_small N D (ln + k * hn) (ld + k * hd) hgc (by omega) (by omega)
  refine ⟨by grind, e, h, by omega, hp, by omega, h1'⟩

theorem br_high {N D m ln ld lg hn hd hg k : Int} (hgc : Nat.gcd N.natAbs D.natAbs = 1) (B : Br N D ln ld lg hn hd hg) (hk : 0 ≤ k) (h1 : k * lg ≤ hg) (h2 : hd + k * ld ≤ m) (hm : m < D) :
    Br N D ln ld lg (hn + k * ln) (hd + k * ld) (hg - k * lg) := by
  obtain ⟨d, l, h, lp, hp, l1, h1'⟩ := B
  have hkd : 0 ≤ k * ld := Int.mul_nonneg hk (by omega)
  have e : hg - k * lg = (hn + k * ln) * D - N * (hd + k * ld) := by grind
  have ns := @no_small N D (hn + k * ln) (hd + k * ld) hgc (by omega) (by omega)
  refine ⟨by grind, l, e, lp, by omega, l1, by omega⟩

/-- the bracket's numerators are bounded as N is -/
theorem br_bd {N D ln ld lg hn hd hg : Int} (B : Br N D ln ld lg hn hd hg) (h1 : -1073741824 ≤ N) (h2 : N ≤ 1073741824) (hl : ld ≤ D) (hh : hd ≤ D) (hlg : lg ≤ D) (hhg : hg ≤ D) :
    -1073741825 ≤ ln ∧ ln ≤ 1073741825 ∧ -1073741825 ≤ hn ∧ hn ≤ 1073741825 := by
  obtain ⟨d, l, h, lp, hp, l1, h1'⟩ := B
  have hD : 0 < D := by omega
  have a1 : N * ld ≤ 1073741824 * ld := Int.mul_le_mul_of_nonneg_right h2 (by omega)
  have a2 : -1073741824 * ld ≤ N * ld := Int.mul_le_mul_of_nonneg_right h1 (by omega)
  have b1 : N * hd ≤ 1073741824 * hd := Int.mul_le_mul_of_nonneg_right h2 (by omega)
  have b2 : -1073741824 * hd ≤ N * hd := Int.mul_le_mul_of_nonneg_right h1 (by omega)
  have le : ∀ x y : Int, x * D ≤ y * D → x ≤ y := fun x y q => Int.le_of_mul_le_mul_right q hD
  refine ⟨le _ _ (by omega), le _ _ (by omega), le _ _ (by omega), le _ _ (by omega)⟩

/-- the quotient that is taken -/
theorem k_facts {g g' m ld hd : Int} (h0 : 0 ≤ g) (h1 : 0 < g') (h2 : ld ≤ m) (h3 : 1 ≤ hd) :
    0 ≤ min (g / g') ((m - ld) / hd) ∧ min (g / g') ((m - ld) / hd) * g' ≤ g ∧ ld + min (g / g') ((m - ld) / hd) * hd ≤ m ∧ min (g / g') ((m - ld) / hd) ≤ m - ld := by
  have a : 0 ≤ g / g' := Int.ediv_nonneg h0 (by omega)
  have b : 0 ≤ (m - ld) / hd := Int.ediv_nonneg (by omega) (by omega)
  have ga := (@floor_lt g g' (by omega)).1
  have gb := (@floor_lt (m - ld) hd (by omega)).1
  generalize g / g' = x at *
  generalize (m - ld) / hd = y at *
  have hm : min x y ≤ x ∧ min x y ≤ y ∧ 0 ≤ min x y := by omega
  generalize min x y = k at *
  have k1 : k * g' ≤ x * g' := Int.mul_le_mul_of_nonneg_right (by omega) (by omega)
  have k2 : k * hd ≤ y * hd := Int.mul_le_mul_of_nonneg_right (by omega) (by omega)
  have k3 : k * 1 ≤ k * hd := Int.mul_le_mul_of_nonneg_left (by omega) (by omega)
  omega

/-- of two rounds' quotients one is at least 1 -/
theorem k_pos {g g' m ld hd : Int} (h1 : 0 < g') (hg : g' ≤ g) (h2 : ld + hd ≤ m) (h3 : 1 ≤ hd) : 1 ≤ min (g / g') ((m - ld) / hd) := by
  have a : 1 ≤ g / g' := by
    have := (@floor_lt g g' (by omega)).2
    rcases Int.lt_or_le (g / g') 1 with c | c
    · have : (g / g' + 1) * g' ≤ 1 * g' := Int.mul_le_mul_of_nonneg_right (by omega) (by omega)
      omega
    · exact c
  have b : 1 ≤ (m - ld) / hd := by
    have := (@floor_lt (m - ld) hd (by omega)).2
    rcases Int.lt_or_le ((m - ld) / hd) 1 with c | c
    · have : ((m - ld) / hd + 1) * hd ≤ 1 * hd := Int.mul_le_mul_of_nonneg_right (by omega) (by omega)
      omega
    · exact c
  omega

/-- one round of the bracket: both ends move, and at least one of them does -/
theorem round_facts {N D m ln ld lg hn hd hg k1 k2 : Int} (hgc : Nat.gcd N.natAbs D.natAbs = 1) (B : Br N D ln ld lg hn hd hg) (hm : m < D) (l1 : ld ≤ m) (l2 : hd ≤ m) (l3 : lg ≤ D) (l4 : hg ≤ D) (hc : ld + hd ≤ m)
    (e1 : k1 = min (lg / hg) ((m - ld) / hd)) (e2 : k2 = min (hg / (lg - k1 * hg)) ((m - hd) / (ld + k1 * hd))) :
    Br N D (ln + k1 * hn) (ld + k1 * hd) (lg - k1 * hg) hn hd hg ∧ ld + k1 * hd ≤ m ∧ lg - k1 * hg ≤ D ∧
    Br N D (ln + k1 * hn) (ld + k1 * hd) (lg - k1 * hg) (hn + k2 * (ln + k1 * hn)) (hd + k2 * (ld + k1 * hd)) (hg - k2 * (lg - k1 * hg)) ∧ hd + k2 * (ld + k1 * hd) ≤ m ∧ hg - k2 * (lg - k1 * hg) ≤ D ∧
    (2 * m - (ld + k1 * hd) - (hd + k2 * (ld + k1 * hd))).toNat < (2 * m - ld - hd).toNat := by
  have hl := B.lpos
  have hh := B.hpos
  have hl1 := B.ld1
  have hh1 := B.hd1
  obtain ⟨a1, a2, a3, a4⟩ := @k_facts lg hg m ld hd (by omega) hh l1 hh1
  have p1 := fun h => @k_pos lg hg m ld hd hh h hc hh1
  rw [← e1] at a1 a2 a3 a4 p1
  have B1 := br_low hgc B a1 a2 a3 hm
  have n1 : 0 ≤ k1 * hd := Int.mul_nonneg a1 (by omega)
  have n2 : 0 ≤ k1 * hg := Int.mul_nonneg a1 (by omega)
  have hl' := B1.lpos
  have hl1' := B1.ld1
  obtain ⟨b1, b2, b3, b4⟩ := @k_facts hg (lg - k1 * hg) m hd (ld + k1 * hd) (by omega) hl' l2 hl1'
  have p2 := fun h h' => @k_pos hg (lg - k1 * hg) m hd (ld + k1 * hd) hl' h h' hl1'
  rw [← e2] at b1 b2 b3 b4 p2
  have B2 := br_high hgc B1 b1 b2 b3 hm
  have n3 : 0 ≤ k2 * (ld + k1 * hd) := Int.mul_nonneg b1 (by omega)
  have n4 : 0 ≤ k2 * (lg - k1 * hg) := Int.mul_nonneg b1 (by omega)
  refine ⟨B1, a3, by omega, B2, b3, by omega, ?_⟩
  by_cases c : hg ≤ lg
  · have := p1 c
    have : 1 * hd ≤ k1 * hd := Int.mul_le_mul_of_nonneg_right this (by omega)
    omega
  · by_cases z : k1 = 0
    · subst z
      have := p2 (by omega) (by omega)
      have : 1 * (ld + 0 * hd) ≤ k2 * (ld + 0 * hd) := Int.mul_le_mul_of_nonneg_right this (by omega)
      omega
    · have : 1 * hd ≤ k1 * hd := Int.mul_le_mul_of_nonneg_right (by omega) (by omega)
      omega

/-! ### the search one by one -/
/-- is k / j nearer than p / q? -/
def Nr (N D k j p q : Int) : Prop := ab (N * j - k * D) * q < ab (N * q - p * D) * j
instance (N D k j p q : Int) : Decidable (Nr N D k j p q) := inferInstanceAs (Decidable (_ < _))

/-- after all fractions with denominators up to j -/
def St (N D j p q : Int) : Prop := 1 ≤ q ∧ (q ≤ j ∨ (j = 0 ∧ p = N / D ∧ q = 1)) ∧ (∀ a c : Int, 1 ≤ c → c ≤ j → Le N D p q a c)

theorem nr_le {N D k j p q a c : Int} (h : Nr N D k j p q) (hj : 1 ≤ j) (hq : 1 ≤ q) (hc : 1 ≤ c) (l : Le N D p q a c) : Le N D k j a c := by
  unfold Nr at h
  unfold Le at *
  left
  have l' : ab (N * q - p * D) * c ≤ ab (N * c - a * D) * q := by omega
  generalize ab (N * j - k * D) = dk at *
  generalize ab (N * q - p * D) = db at *
  generalize ab (N * c - a * D) = da at *
  have s1 : dk * q * c < db * j * c := Int.mul_lt_mul_of_pos_right h (by omega)
  have s2 : db * c * j ≤ da * q * j := Int.mul_le_mul_of_nonneg_right l' (by omega)
  have s3 : (dk * c) * q < (da * j) * q := by
    have : dk * q * c = dk * c * q := by grind
    have : db * j * c = db * c * j := by grind
    have : da * q * j = da * j * q := by grind
    omega
  exact Int.lt_of_mul_lt_mul_right s3 (by omega)

theorem keep_le {N D k j p q : Int} (h : ¬ Nr N D k j p q) (hl : q < j ∨ (q = j ∧ p ≤ k)) : Le N D p q k j := by
  unfold Nr at h; unfold Le; omega

theorem le_refl (N D p q : Int) : Le N D p q p q := by unfold Le; omega

theorem le_of_beside {N D p q n j a : Int} (hD : 1 ≤ D) (hq : 1 ≤ q) (_hj : 1 ≤ j) (h1 : n * D ≤ N * j) (h2 : N * j < (n + 1) * D) (l1 : Le N D p q n j) (l2 : Le N D p q (n + 1) j) : Le N D p q a j := by
  by_cases ha : a = n
  · rw [ha]; exact l1
  by_cases hb : a = n + 1
  · rw [hb]; exact l2
  unfold Le at *
  left
  rcases Int.lt_or_gt_of_ne ha with h | h
  · have k : a * D < n * D := Int.mul_lt_mul_of_pos_right h (by omega)
    have e1 : ab (N * j - n * D) = N * j - n * D := ab_pos (by omega)
    have e2 : ab (N * j - a * D) = N * j - a * D := ab_pos (by omega)
    rw [e1] at l1; rw [e2]
    have : (N * j - n * D) * q < (N * j - a * D) * q := Int.mul_lt_mul_of_pos_right (by omega) (by omega)
    omega
  · have k : (n + 1) * D < a * D := Int.mul_lt_mul_of_pos_right (by omega) (by omega)
    have e1 : ab (N * j - (n + 1) * D) = -(N * j - (n + 1) * D) := ab_neg (by omega)
    have e2 : ab (N * j - a * D) = -(N * j - a * D) := ab_neg (by omega)
    rw [e1] at l2; rw [e2]
    have : -(N * j - (n + 1) * D) * q < -(N * j - a * D) * q := Int.mul_lt_mul_of_pos_right (by omega) (by omega)
    omega


def up1 (N D p q k j : Int) : Int := if Nr N D k j p q then k else p
def up2 (N D p q k j : Int) : Int := if Nr N D k j p q then j else q

theorem st_round {N D j p q p1 q1 p2 q2 : Int} (hD : 1 ≤ D) (hj : 0 ≤ j) (s : St N D j p q)
    (e1 : p1 = up1 N D p q (N * (j + 1) / D) (j + 1)) (e2 : q1 = up2 N D p q (N * (j + 1) / D) (j + 1))
    (e3 : p2 = up1 N D p1 q1 (N * (j + 1) / D + 1) (j + 1)) (e4 : q2 = up2 N D p1 q1 (N * (j + 1) / D + 1) (j + 1)) : St N D (j + 1) p2 q2 := by
  obtain ⟨f1, f2⟩ := @floor_lt (N * (j + 1)) D hD
  obtain ⟨s1, s2, s3⟩ := s
  generalize hn : N * (j + 1) / D = n at *
  -- after the first candidate
  have A : 1 ≤ q1 ∧ (q1 < j + 1 ∨ (q1 = j + 1 ∧ p1 ≤ n)) ∧ (∀ a c : Int, 1 ≤ c → c ≤ j → Le N D p1 q1 a c) ∧ Le N D p1 q1 n (j + 1) := by
    by_cases h : Nr N D n (j + 1) p q
    · have e1' : p1 = n := by rw [e1]; unfold up1; rw [if_pos h]
      have e2' : q1 = j + 1 := by rw [e2]; unfold up2; rw [if_pos h]
      subst e1' e2'
      exact ⟨by omega, Or.inr ⟨rfl, by omega⟩, fun a c h1 h2 => nr_le h (by omega) s1 h1 (s3 a c h1 h2), le_refl _ _ _ _⟩
    · have e1' : p1 = p := by rw [e1]; unfold up1; rw [if_neg h]
      have e2' : q1 = q := by rw [e2]; unfold up2; rw [if_neg h]
      have pos : q1 < j + 1 ∨ (q1 = j + 1 ∧ p1 ≤ n) := by
        rcases s2 with s2 | ⟨z, z1, z2⟩
        · left; omega
        · right; subst z; refine ⟨by omega, ?_⟩
          have : p1 = n := by rw [e1', z1, ← hn]; simp
          omega
      subst e1' e2'
      exact ⟨s1, pos, s3, keep_le h pos⟩
  obtain ⟨a1, a2, a3, a4⟩ := A
  have B : 1 ≤ q2 ∧ q2 ≤ j + 1 ∧ (∀ a c : Int, 1 ≤ c → c ≤ j → Le N D p2 q2 a c) ∧ Le N D p2 q2 n (j + 1) ∧ Le N D p2 q2 (n + 1) (j + 1) := by
    by_cases h : Nr N D (n + 1) (j + 1) p1 q1
    · have e1' : p2 = n + 1 := by rw [e3]; unfold up1; rw [if_pos h]
      have e2' : q2 = j + 1 := by rw [e4]; unfold up2; rw [if_pos h]
      subst e1' e2'
      exact ⟨by omega, by omega, fun a c h1 h2 => nr_le h (by omega) a1 h1 (a3 a c h1 h2), nr_le h (by omega) a1 (by omega) a4, le_refl _ _ _ _⟩
    · have e1' : p2 = p1 := by rw [e3]; unfold up1; rw [if_neg h]
      have e2' : q2 = q1 := by rw [e4]; unfold up2; rw [if_neg h]
      rw [e1', e2']
      exact ⟨a1, by omega, a3, a4, keep_le h (by omega)⟩
  obtain ⟨b1, b2, b3, b4, b5⟩ := B
  refine ⟨b1, Or.inl b2, fun a c h1 h2 => ?_⟩
  by_cases hc : c ≤ j
  · exact b3 a c h1 hc
  · obtain rfl : c = j + 1 := by omega
    exact le_of_beside hD b1 (by omega) f1 (by omega) b4 b5

theorem st_start {N D : Int} : St N D 0 (N / D) 1 := ⟨by omega, Or.inr ⟨rfl, rfl, rfl⟩, fun a c h1 h2 => by omega⟩
theorem st_end {N D m p q : Int} (hm : 1 ≤ m) (s : St N D m p q) : IsBest N D m p q := ⟨s.1, by have := s.2.1; omega, s.2.2⟩
end Go.Proofs.YthengbhokamhbaaDoor.QB
