import Derived.Test.YtghlecocnflbnaaDoorAMath
/-! Accidentals, in plain terms: which notes clash; what is displayed can be read. -/
namespace Go.Proofs.YtghlecocnflbnaaDoor

/-- the pairs that were looked at up to a place -/
def hit (l : List Nt) (i j k : Nat) : Prop := ∃ (a b : Nat) (x y : Nt), a < b ∧ l[a]? = some x ∧ l[b]? = some y ∧ dif x y = true ∧ (a < i ∨ (a = i ∧ b < j)) ∧ (k = a ∨ k = b)
theorem hit_none (l : List Nt) (k : Nat) : ¬ hit l 0 0 k := by
  rintro ⟨a, b, x, y, _, _, _, _, h, _⟩
  omega
theorem hit_start {l : List Nt} {i k : Nat} : hit l i (i + 1) k ↔ hit l i 0 k := by
  constructor
  · rintro ⟨a, b, x, y, h1, h2, h3, h4, h5, h6⟩
    exact ⟨a, b, x, y, h1, h2, h3, h4, by omega, h6⟩
  · rintro ⟨a, b, x, y, h1, h2, h3, h4, h5, h6⟩
    exact ⟨a, b, x, y, h1, h2, h3, h4, by omega, h6⟩
theorem hit_yes {l : List Nt} {i j k : Nat} {x y : Nt} (hij : i < j) (hi : l[i]? = some x) (hj : l[j]? = some y) (h : dif x y = true) : hit l i (j + 1) k ↔ hit l i j k ∨ k = i ∨ k = j := by
  constructor
  · rintro ⟨a, b, u, v, h1, h2, h3, h4, h5, h6⟩
    by_cases e : a = i ∧ b = j
    · right; omega
    · left; exact ⟨a, b, u, v, h1, h2, h3, h4, by omega, h6⟩
  · rintro (⟨a, b, u, v, h1, h2, h3, h4, h5, h6⟩ | h6)
    · exact ⟨a, b, u, v, h1, h2, h3, h4, by omega, h6⟩
    · exact ⟨i, j, x, y, hij, hi, hj, h, by omega, h6⟩
theorem hit_no {l : List Nt} {i j k : Nat} {x y : Nt} (hi : l[i]? = some x) (hj : l[j]? = some y) (h : dif x y = false) : hit l i (j + 1) k ↔ hit l i j k := by
  constructor
  · rintro ⟨a, b, u, v, h1, h2, h3, h4, h5, h6⟩
    by_cases e : a = i ∧ b = j
    · obtain ⟨rfl, rfl⟩ := e
      rw [hi] at h2; rw [hj] at h3
      rw [← Option.some.inj h2, ← Option.some.inj h3, h] at h4
      cases h4
    · exact ⟨a, b, u, v, h1, h2, h3, h4, by omega, h6⟩
  · rintro ⟨a, b, u, v, h1, h2, h3, h4, h5, h6⟩
    exact ⟨a, b, u, v, h1, h2, h3, h4, by omega, h6⟩
theorem hit_end {l : List Nt} {i j k : Nat} (h : l.length ≤ j) : hit l (i + 1) 0 k ↔ hit l i j k := by
  constructor
  · rintro ⟨a, b, u, v, h1, h2, h3, h4, h5, h6⟩
    have := (List.getElem?_eq_some_iff.1 h3).1
    exact ⟨a, b, u, v, h1, h2, h3, h4, by omega, h6⟩
  · rintro ⟨a, b, u, v, h1, h2, h3, h4, h5, h6⟩
    exact ⟨a, b, u, v, h1, h2, h3, h4, by omega, h6⟩
theorem hit_break {l : List Nt} {i j k : Nat} {x y : Nt} (hs : Srt l) (hij : i < j) (hi : l[i]? = some x) (hj : l[j]? = some y) (h : x.t ≠ y.t) : hit l (i + 1) 0 k ↔ hit l i j k := by
  constructor
  · rintro ⟨a, b, u, v, h1, h2, h3, h4, h5, h6⟩
    by_cases e : a = i ∧ j ≤ b
    · exfalso
      obtain ⟨rfl, e2⟩ := e
      rw [hi] at h2
      have := Option.some.inj h2
      subst this
      have s1 := hs _ _ _ _ (by omega) hi hj
      have s2 := hs _ _ _ _ e2 hj h3
      have h4' := of_decide_eq_true h4
      omega
    · exact ⟨a, b, u, v, h1, h2, h3, h4, by omega, h6⟩
  · rintro ⟨a, b, u, v, h1, h2, h3, h4, h5, h6⟩
    exact ⟨a, b, u, v, h1, h2, h3, h4, by omega, h6⟩
theorem hit_all {l : List Nt} {k : Nat} {x : Nt} (hk : l[k]? = some x) : hit l l.length 0 k ↔ cl l x = true := by
  rw [cl_iff]
  constructor
  · rintro ⟨a, b, u, v, h1, h2, h3, h4, h5, rfl | rfl⟩
    · rw [hk] at h2; rw [Option.some.inj h2]
      exact ⟨b, v, h3, h4⟩
    · rw [hk] at h3; rw [Option.some.inj h3]
      exact ⟨a, u, h2, by rw [dif_comm]; exact h4⟩
  · rintro ⟨j, b, hj, h⟩
    have h1 := (List.getElem?_eq_some_iff.1 hk).1
    have h2 := (List.getElem?_eq_some_iff.1 hj).1
    by_cases e : k < j
    · exact ⟨k, j, x, b, e, hk, hj, h, .inl h1, .inl rfl⟩
    · by_cases e2 : j = k
      · subst e2
        rw [hk] at hj
        rw [← Option.some.inj hj, dif_self] at h
        cases h
      · exact ⟨j, k, b, x, by omega, hj, hk, by rw [dif_comm]; exact h, .inl h2, .inr rfl⟩

/-- what a mark is -/
theorem mK_z {d : Bool} {n : Nt} (ha : AOk n.al) : mK d n = 0 ↔ d = false ∧ n.sh = 0 := by
  unfold mK AOk at *
  by_cases h : d = false ∧ n.sh = 0
  · rw [if_pos h]; exact ⟨fun _ => h, fun _ => rfl⟩
  · rw [if_neg h]; exact ⟨fun e => by omega, fun e => absurd e h⟩
theorem mK_bd {d : Bool} {n : Nt} (ha : AOk n.al) : 0 ≤ mK d n ∧ mK d n ≤ 5 := by
  unfold mK AOk at *
  split <;> omega
theorem nee_f {c : Bool} {n : Nt} {f : Int → Int} (h : nee c n f = false) : c = false ∧ (n.hd = true ∨ n.al = f (ix n.st n.oc)) := by
  unfold nee at h
  rw [Bool.or_eq_false_iff, Bool.and_eq_false_iff] at h
  refine ⟨h.1, ?_⟩
  rcases h.2 with h | h
  · left; simpa using h
  · right; exact Decidable.byContradiction fun k => (of_decide_eq_false h) k
theorem one_back {c : Bool} {n : Nt} {f : Int → Int} (ha : AOk n.al) : rA f (plO n (mK (nee c n f) n, mP (nee c n f) n)) = n.al ∧ rF f (plO n (mK (nee c n f) n, mP (nee c n f) n)) = nx (mK (nee c n f) n) n f := by
  unfold rA rF nx plO
  dsimp only
  by_cases h : mK (nee c n f) n = 0
  · rw [if_pos h, if_pos h, if_pos h]
    obtain ⟨h1, _⟩ := (mK_z ha).1 h
    have h2 := (nee_f h1).2
    refine ⟨?_, rfl⟩
    by_cases e : n.hd = true
    · rw [if_pos e, if_pos e]
    · rw [if_neg e]
      rcases h2 with h2 | h2
      · exact absurd h2 e
      · exact h2.symm
  · rw [if_neg h, if_neg h, if_neg h]
    have e : mK (nee c n f) n - 3 = n.al := by
      unfold mK at h ⊢
      by_cases k : nee c n f = false ∧ n.sh = 0
      · rw [if_pos k] at h; exact absurd rfl h
      · rw [if_neg k]; omega
    rw [e]
    exact ⟨rfl, rfl⟩
theorem back (c : Nt → Bool) : ∀ (l : List Nt) (f : Int → Int), (∀ n ∈ l, AOk n.al) → rdL f (plL l (dsM c f l)) = l.map Nt.al
  | [], f, _ => by simp [plL, rdL]
  | n :: l, f, h => by
    have h1 := one_back (c := c n) (f := f) (h n (by simp))
    have ih := back c l (nx (mK (nee (c n) n f) n) n f) (fun m hm => h m (by simp [hm]))
    unfold plL at ih ⊢
    rw [dsM, List.zipWith_cons_cons, rdL, h1.1, h1.2, ih]
    rfl
theorem pl_ck (c : Nt → Bool) : ∀ (l : List Nt) (f : Int → Int) (b : Int), ckL b l = 0 → ckM b (plL l (dsM c f l)) = 0
  | [], f, b, _ => by simp [plL, ckM]
  | n :: l, f, b, h => by
    unfold ckL at h
    by_cases h0 : ckN b n = 0
    · rw [if_pos h0] at h
      have h3 := ckN_ok.1 h0
      have ih := pl_ck c l (nx (mK (nee (c n) n f) n) n f) n.t h
      unfold plL at ih ⊢
      have hk := mK_bd (d := nee (c n) n f) h3.2.2.1
      rw [dsM, List.zipWith_cons_cons, ckM, if_pos, ]
      · exact ih
      · refine ckP_ok.2 ⟨h3.1, h3.2.1, hk.1, hk.2, fun e => ?_⟩
        show AOk (if n.hd = true then n.al else 0)
        rw [if_pos (show n.hd = true from e)]; exact h3.2.2.1
    · rw [if_neg h0] at h; exact absurd h h0
theorem pl_ck_set (c : Nt → Bool) : ∀ (l : List Nt) (k : Nat) (f : Int → Int) (b : Int), ckL b l = 0 → ckM b (plL l ((dsM c f l).set k (0, false))) = 0
  | [], k, f, b, _ => by simp [plL, ckM]
  | n :: l, k, f, b, h => by
    unfold ckL at h
    by_cases h0 : ckN b n = 0
    · rw [if_pos h0] at h
      have h3 := ckN_ok.1 h0
      have hk := mK_bd (d := nee (c n) n f) h3.2.2.1
      match k with
      | 0 =>
        have ih := pl_ck c l (nx (mK (nee (c n) n f) n) n f) n.t h
        unfold plL at ih ⊢
        rw [dsM, List.set_cons_zero, List.zipWith_cons_cons, ckM, if_pos]
        · exact ih
        · refine ckP_ok.2 ⟨h3.1, h3.2.1, Int.le_refl 0, (by decide : (0 : Int) ≤ 5), fun e => ?_⟩
          show AOk (if n.hd = true then n.al else 0)
          rw [if_pos (show n.hd = true from e)]; exact h3.2.2.1
      | k + 1 =>
        have ih := pl_ck_set c l k (nx (mK (nee (c n) n f) n) n f) n.t h
        unfold plL at ih ⊢
        rw [dsM, List.set_cons_succ, List.zipWith_cons_cons, ckM, if_pos]
        · exact ih
        · refine ckP_ok.2 ⟨h3.1, h3.2.1, hk.1, hk.2, fun e => ?_⟩
          show AOk (if n.hd = true then n.al else 0)
          rw [if_pos (show n.hd = true from e)]; exact h3.2.2.1
    · rw [if_neg h0] at h; exact absurd h h0
theorem without (c : Nt → Bool) : ∀ (l : List Nt) (k : Nat) (f : Int → Int) (n : Nt) (m : Int × Bool), (∀ n ∈ l, AOk n.al) → l[k]? = some n → (dsM c f l)[k]? = some m → m.1 ≠ 0 → n.hd = false → n.sh = 0 → c n = false →
    ∃ x, (rdL f (plL l ((dsM c f l).set k (0, false))))[k]? = some x ∧ x ≠ n.al
  | [], k, f, n, m, _, h, _, _, _, _, _ => by simp at h
  | n0 :: l, 0, f, n, m, ha, h, hm, hk, hd, hs, hc => by
    simp at h
    subst h
    rw [dsM] at hm ⊢
    simp at hm
    subst hm
    dsimp only at hk
    refine ⟨f (ix n0.st n0.oc), ?_, ?_⟩
    · unfold plL
      rw [List.set_cons_zero, List.zipWith_cons_cons, rdL]
      simp [rA, plO, hd]
    · intro e
      apply hk
      have : nee (c n0) n0 f = false := by unfold nee; rw [hc, hd, e]; simp
      rw [this]
      unfold mK
      rw [if_pos ⟨rfl, hs⟩]
  | n0 :: l, k + 1, f, n, m, ha, h, hm, hk, hd, hs, hc => by
    have h1 := one_back (c := c n0) (f := f) (ha n0 (by simp))
    rw [dsM] at hm ⊢
    obtain ⟨x, hx, hne⟩ := without c l k (nx (mK (nee (c n0) n0 f) n0) n0 f) n m (fun q hq => ha q (by simp [hq])) (by simpa using h) (by simpa using hm) hk hd hs hc
    refine ⟨x, ?_, hne⟩
    unfold plL at hx ⊢
    rw [List.set_cons_succ, List.zipWith_cons_cons, rdL, h1.2]
    simpa using hx

/-- the mark at a place -/
theorem mark_at (c : Nt → Bool) : ∀ (l : List Nt) (f : Int → Int) (i : Nat) (n : Nt) (m : Int × Bool), l[i]? = some n → (dsM c f l)[i]? = some m → ∃ d, m = (mK d n, mP d n)
  | [], f, i, n, m, h, _ => by simp at h
  | n0 :: l, f, 0, n, m, h, hm => by
    simp at h; subst h
    rw [dsM] at hm; simp at hm
    exact ⟨_, hm.symm⟩
  | n0 :: l, f, i + 1, n, m, h, hm => by
    rw [dsM] at hm
    exact mark_at c l _ i n m (by simpa using h) (by simpa using hm)
/-- notes of the key's alterations -/
theorem plain_key {c : Nt → Bool} {f : Int → Int} : ∀ (l : List Nt), (∀ n ∈ l, n.al = f (ix n.st n.oc) ∧ n.sh = 0 ∧ c n = false) → dsM c f l = l.map (fun _ => (0, false))
  | [], _ => rfl
  | n :: l, h => by
    obtain ⟨h1, h2, h3⟩ := h n (by simp)
    have hn : nee (c n) n f = false := by unfold nee; rw [h3, h1]; simp
    have hk : mK (nee (c n) n f) n = 0 := by unfold mK; rw [if_pos ⟨hn, h2⟩]
    have hp : mP (nee (c n) n f) n = false := by unfold mP; rw [h2]; simp
    rw [dsM, hk, hp]
    have : nx 0 n f = f := if_pos rfl
    rw [this, plain_key l (fun m hm => h m (by simp [hm]))]
    rfl
theorem key_noclash {l : List Nt} {f : Int → Int} (h : ∀ n ∈ l, n.al = f (ix n.st n.oc)) {a : Nt} (ha : a ∈ l) : cl l a = false := by
  unfold cl
  rw [List.any_eq_false]
  intro b hb hd
  have hd' := of_decide_eq_true hd
  apply hd'.2.2.2
  rw [h a ha, h b hb, hd'.2.1, hd'.2.2.1]
/-- what comes before a tick -/
theorem dsM_congr {c d : Nt → Bool} : ∀ (l : List Nt) (f : Int → Int), (∀ n ∈ l, c n = d n) → dsM c f l = dsM d f l
  | [], _, _ => rfl
  | n :: l, f, h => by
    rw [dsM, dsM, h n (by simp), dsM_congr l _ (fun m hm => h m (by simp [hm]))]
theorem dsM_take (c : Nt → Bool) : ∀ (l : List Nt) (k : Nat) (f : Int → Int), dsM c f (l.take k) = (dsM c f l).take k
  | [], k, f => by simp [dsM]
  | n :: l, 0, f => by simp [dsM]
  | n :: l, k + 1, f => by
    rw [List.take_succ_cons, dsM, dsM, List.take_succ_cons, dsM_take c l k]
theorem early {l : List Nt} {k : Nat} {at' : Int} (hs : Srt l) (h1 : ∀ n ∈ l.take k, n.t < at') (h2 : ∀ n, l[k]? = some n → at' ≤ n.t) (f : Int → Int) : dsM (cl (l.take k)) f (l.take k) = (dsM (cl l) f l).take k := by
  rw [← dsM_take]
  refine dsM_congr _ _ fun n hn => ?_
  have ht := h1 n hn
  rw [Bool.eq_iff_iff, cl_iff, cl_iff]
  constructor
  · rintro ⟨j, b, hj, h⟩
    rw [List.getElem?_take] at hj
    split at hj
    · exact ⟨j, b, hj, h⟩
    · cases hj
  · rintro ⟨j, b, hj, h⟩
    refine ⟨j, b, ?_, h⟩
    rw [List.getElem?_take, if_pos]
    · exact hj
    · refine Decidable.byContradiction fun hk => ?_
      have hd := of_decide_eq_true h
      have hl : k < l.length := by have := (List.getElem?_eq_some_iff.1 hj).1; omega
      have h3 := h2 _ (List.getElem?_eq_getElem hl)
      have h4 := hs k j _ _ (by omega) (List.getElem?_eq_getElem hl) hj
      omega
theorem ckL_take : ∀ (l : List Nt) (k : Nat) (b : Int), ckL b l = 0 → ckL b (l.take k) = 0
  | [], k, b, _ => by simp [ckL]
  | n :: l, 0, b, _ => by simp [ckL]
  | n :: l, k + 1, b, h => by
    rw [List.take_succ_cons]
    unfold ckL at h ⊢
    by_cases h0 : ckN b n = 0
    · rw [if_pos h0] at h ⊢
      exact ckL_take l k n.t h
    · rw [if_neg h0] at h; exact absurd h h0
end Go.Proofs.YtghlecocnflbnaaDoor
