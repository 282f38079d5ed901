import Derived.Test.YtabaiklagobimaaRows
/-! Tuplets, in plain terms: what is checked with a stack is what is checked event by event. -/
namespace Go.Proofs.Ytabaiklagobimaa

/-- a tuplet: the first event, how many, how many notes, in place of how many -/
structure Tu where
  f : Int
  c : Int
  a : Int
  n : Int
deriving DecidableEq
def en (t : Tu) : Int := t.f + t.c
def Rt (n : Int) : Prop := 1 ≤ n ∧ n ≤ 32
instance (n : Int) : Decidable (Rt n) := by unfold Rt; infer_instance
/-- is a tuplet well formed by itself? -/
def InR (ev : Int) (t : Tu) : Prop := 1 ≤ t.c ∧ 0 ≤ t.f ∧ t.f ≤ ev - t.c ∧ Rt t.a ∧ Rt t.n ∧ t.a ≠ t.n
instance (ev : Int) (t : Tu) : Decidable (InR ev t) := by unfold InR; infer_instance
/-- must it stand before another one? -/
def Aft (a b : Tu) : Prop := a.f < b.f ∨ (a.f = b.f ∧ b.c < a.c)
instance (a b : Tu) : Decidable (Aft a b) := by unfold Aft; infer_instance
def InT (t : Tu) (e : Int) : Prop := t.f ≤ e ∧ e < en t
instance (t : Tu) (e : Int) : Decidable (InT t e) := by unfold InT; infer_instance
def Wi (a b : Tu) : Prop := b.f ≤ a.f ∧ en a ≤ en b
instance (a b : Tu) : Decidable (Wi a b) := by unfold Wi; infer_instance
/-- the open ones, the innermost first, where an event is reached -/
def pop (s : List Tu) (x : Int) : List Tu := s.dropWhile (fun t => decide (en t ≤ x))
def Tight (s : List Tu) (t : Tu) : Prop := 3 ≤ s.length ∨ ∃ o, s.head? = some o ∧ en o < en t
instance (s : List Tu) (t : Tu) : Decidable (Tight s t) := by
  unfold Tight
  cases s with
  | nil => exact .isFalse (fun h => by rcases h with h | ⟨o, h, _⟩ <;> simp at h)
  | cons o r =>
    refine decidable_of_iff (3 ≤ (o :: r).length ∨ en o < en t) ⟨fun h => h.imp id fun k => ⟨o, rfl, k⟩, fun h => h.imp id fun ⟨p, e, k⟩ => by
      simp at e; rw [e]; exact k⟩
/-- is an earlier one against the order? -/
def Ord (p : Option Tu) (t : Tu) : Prop := ∃ q, p = some q ∧ Aft t q
instance (p : Option Tu) (t : Tu) : Decidable (Ord p t) := by
  unfold Ord
  cases p with
  | none => exact .isFalse (fun ⟨_, h, _⟩ => by cases h)
  | some q => exact decidable_of_iff (Aft t q) ⟨fun h => ⟨q, rfl, h⟩, fun ⟨r, e, h⟩ => by cases e; exact h⟩
/-- the program's check, from a tuplet on -/
def goP (ev : Int) : Option Tu → List Tu → List Tu → Int
  | _, _, [] => 0
  | p, s, t :: r => if InR ev t then (if Ord p t then 25 else if Tight (pop s t.f) t then 21 else goP ev (some t) (t :: pop s t.f) r) else 2
/-- what the definition finds, event by event -/
def Bad (ev : Int) (b : List Tu) (t : Tu) : Prop := ∃ e : Int, 0 ≤ e ∧ e < ev ∧ InT t e ∧ ((∃ k, k ∈ b ∧ InT k e ∧ ¬ Wi t k) ∨ 3 ≤ (b.filter (fun k => decide (InT k e))).length)
/-- the stack holds what is open -/
structure Inv (x : Int) (b s : List Tu) : Prop where
  low : ∀ k, k ∈ b → k.f ≤ x
  srt : s.Pairwise (fun u v => en u ≤ en v)
  same : ∀ y, x ≤ y → (s.filter (fun k => decide (y < en k))).Perm (b.filter (fun k => decide (y < en k)))
theorem Inv.nil (x : Int) : Inv x [] [] := ⟨by simp, .nil, fun _ _ => .refl _⟩
theorem pop_filter : ∀ (s : List Tu) (x : Int), s.Pairwise (fun u v => en u ≤ en v) → pop s x = s.filter (fun k => decide (x < en k))
  | [], _, _ => rfl
  | t :: s, x, h => by
    rw [List.pairwise_cons] at h
    unfold pop
    by_cases c : en t ≤ x
    · rw [List.dropWhile_cons_of_pos (by simpa using c), List.filter_cons_of_neg (by simp; omega)]
      exact pop_filter s x h.2
    · rw [List.dropWhile_cons_of_neg (by simpa using c), List.filter_cons_of_pos (by simp; omega)]
      congr 1
      exact (List.filter_eq_self.2 fun k hk => by have := h.1 k hk; simp; omega).symm
theorem tight_iff {ev x : Int} {b s : List Tu} {t : Tu} (h : Inv x b s) (hx : x ≤ t.f) (ht : InR ev t) : Tight (pop s t.f) t ↔ Bad ev b t := by
  obtain ⟨c0, f0, f1, _⟩ := ht
  rw [pop_filter s t.f h.srt]
  have hp := h.same t.f hx
  have hin : ∀ k ∈ b, InT k t.f ↔ t.f < en k := fun k hk => by
    have := h.low k hk
    unfold InT
    constructor
    · exact fun h => h.2
    · intro h; exact ⟨by omega, h⟩
  have hT : InT t t.f := ⟨Int.le_refl _, by unfold en; omega⟩
  constructor
  · rintro (h3 | ⟨o, ho, hlt⟩)
    · refine ⟨t.f, f0, by omega, hT, .inr ?_⟩
      have e : b.filter (fun k => decide (InT k t.f)) = b.filter (fun k => decide (t.f < en k)) := List.filter_congr fun k hk => decide_eq_decide.2 (hin k hk)
      rw [e, ← hp.length_eq]
      exact h3
    · have hm : o ∈ s.filter (fun k => decide (t.f < en k)) := List.mem_of_head? ho
      have hb := hp.mem_iff.1 hm
      obtain ⟨ob, oe⟩ := List.mem_filter.1 hb
      have oe := of_decide_eq_true oe
      exact ⟨t.f, f0, by omega, hT, .inl ⟨o, ob, (hin o ob).2 oe, fun w => by have := w.2; omega⟩⟩
  · rintro ⟨e, _, _, he, hk | h3⟩
    · obtain ⟨k, kb, ki, kw⟩ := hk
      have k1 := h.low k kb
      have k2 : en k < en t := by
        refine Int.not_le.1 fun c => kw ⟨by omega, c⟩
      have k3 : t.f < en k := by have := he.1; have := ki.2; omega
      have hm : k ∈ s.filter (fun k => decide (t.f < en k)) := hp.mem_iff.2 (List.mem_filter.2 ⟨kb, decide_eq_true k3⟩)
      have hs := h.srt.filter (fun k => decide (t.f < en k))
      right
      cases hq : s.filter (fun k => decide (t.f < en k)) with
      | nil => rw [hq] at hm; cases hm
      | cons o r =>
        rw [hq] at hm hs
        refine ⟨o, rfl, ?_⟩
        rcases List.mem_cons.1 hm with rfl | hm
        · exact k2
        · have := (List.pairwise_cons.1 hs).1 k hm; omega
    · left
      refine Nat.le_trans h3 ?_
      rw [hp.length_eq, ← List.countP_eq_length_filter, ← List.countP_eq_length_filter]
      refine List.countP_mono_left fun k hk hd => ?_
      have := of_decide_eq_true hd
      refine decide_eq_true ?_
      have := this.2
      have := he.1
      omega
theorem Inv.step {x : Int} {b s : List Tu} {t : Tu} (h : Inv x b s) (hx : x ≤ t.f) (hn : ¬ Tight (pop s t.f) t) : Inv t.f (b ++ [t]) (t :: pop s t.f) := by
  have hpf := pop_filter s t.f h.srt
  refine ⟨fun k hk => ?_, ?_, fun y hy => ?_⟩
  · rcases List.mem_append.1 hk with hk | hk
    · have := h.low k hk; omega
    · rw [List.mem_singleton.1 hk]; exact Int.le_refl _
  · rw [List.pairwise_cons]
    have hs : (pop s t.f).Pairwise (fun u v => en u ≤ en v) := by rw [hpf]; exact h.srt.filter _
    refine ⟨fun k hk => ?_, hs⟩
    cases hq : pop s t.f with
    | nil => rw [hq] at hk; cases hk
    | cons o r =>
      have ho : en t ≤ en o := Int.not_lt.1 fun c => hn (.inr ⟨o, by rw [hq]; rfl, c⟩)
      rw [hq] at hk hs
      rcases List.mem_cons.1 hk with rfl | hk
      · exact ho
      · have := (List.pairwise_cons.1 hs).1 k hk; omega
  · have e : (pop s t.f).filter (fun k => decide (y < en k)) = s.filter (fun k => decide (y < en k)) := by
      rw [hpf, List.filter_filter]
      refine List.filter_congr fun k _ => ?_
      by_cases c : y < en k
      · simp [c]; omega
      · simp [c]
    have hp := h.same y (by omega)
    rw [List.filter_append, List.filter_cons, e]
    have e2 : [t].filter (fun k => decide (y < en k)) = if decide (y < en t) = true then [t] else [] := by
      rw [List.filter_cons]; rfl
    rw [e2]
    split
    · exact (List.Perm.cons t hp).trans (List.perm_append_singleton t _).symm
    · rw [List.append_nil]; exact hp
/-- the first event of the last one -/
def lf (p : Option Tu) : Int := (p.map Tu.f).getD 0
theorem lf_le {ev : Int} {p : Option Tu} {t : Tu} (h : InR ev t) (ho : ¬ Ord p t) : lf p ≤ t.f := by
  cases p with
  | none => exact h.2.1
  | some q =>
    have : ¬ Aft t q := fun c => ho ⟨q, rfl, c⟩
    unfold Aft at this
    show q.f ≤ t.f
    omega
theorem goP_ok {ev : Int} : ∀ (r : List Tu) (p : Option Tu) (s b : List Tu), Inv (lf p) b s → goP ev p s r = 0 → (∀ t, t ∈ r → InR ev t) ∧ ∀ e : Int, (b.filter (fun k => decide (InT k e))).length ≤ 3 → ((b ++ r).filter (fun k => decide (InT k e))).length ≤ 3
  | [], _, _, b, _, _ => ⟨fun _ h => (by cases h), fun e h => (by rw [List.append_nil]; exact h)⟩
  | t :: r, p, s, b, hI, h => by
    unfold goP at h
    by_cases h1 : InR ev t
    · rw [if_pos h1] at h
      by_cases h2 : Ord p t
      · rw [if_pos h2] at h; exact absurd h (by decide)
      · rw [if_neg h2] at h
        by_cases h3 : Tight (pop s t.f) t
        · rw [if_pos h3] at h; exact absurd h (by decide)
        · rw [if_neg h3] at h
          have hx := lf_le h1 h2
          obtain ⟨i1, i2⟩ := goP_ok r (some t) (t :: pop s t.f) (b ++ [t]) (hI.step hx h3) h
          refine ⟨fun k hk => ?_, fun e he => ?_⟩
          · rcases List.mem_cons.1 hk with rfl | hk
            · exact h1
            · exact i1 k hk
          · have := i2 e ?_
            · simpa using this
            · rw [List.filter_append, List.length_append]
              by_cases c : InT t e
              · have h5 : [t].filter (fun k => decide (InT k e)) = [t] := by simp [c]
                rw [h5]
                have hb : ¬ Bad ev b t := fun k => h3 ((tight_iff hI hx h1).2 k)
                have : ¬ 3 ≤ (b.filter (fun k => decide (InT k e))).length := fun k => hb ⟨e, by have := c.1; have := h1.2.1; omega, by have := c.2; have := h1.2.2.1; unfold en at *; omega, c, .inr k⟩
                simp only [List.length_singleton]
                omega
              · have h5 : [t].filter (fun k => decide (InT k e)) = [] := by simp [c]
                rw [h5]
                simpa using he
    · rw [if_neg h1] at h; exact absurd h (by decide)
/-- the check of all arguments -/
def ckT (ev : Int) (l : List Tu) : Int := if 0 ≤ ev ∧ ev ≤ 128 then (if l.length ≤ 16 then goP ev none [] l else 9) else 2
theorem ckT_ok {ev : Int} {l : List Tu} (h : ckT ev l = 0) : (0 ≤ ev ∧ ev ≤ 128) ∧ l.length ≤ 16 ∧ goP ev none [] l = 0 ∧ (∀ t, t ∈ l → InR ev t) ∧ ∀ e : Int, (l.filter (fun k => decide (InT k e))).length ≤ 3 := by
  unfold ckT at h
  by_cases h1 : 0 ≤ ev ∧ ev ≤ 128
  · rw [if_pos h1] at h
    by_cases h2 : l.length ≤ 16
    · rw [if_pos h2] at h
      obtain ⟨a, b⟩ := goP_ok l none [] [] (Inv.nil _) h
      exact ⟨h1, h2, h, a, fun e => by simpa using b e (by simp)⟩
    · rw [if_neg h2] at h; exact absurd h (by decide)
  · rw [if_neg h1] at h; exact absurd h (by decide)
/-- the stack and the last one in front of an index -/
def stk (b : List Tu) : List Tu := b.foldl (fun s t => t :: pop s t.f) []
theorem stk_next {l : List Tu} {i : Nat} {t : Tu} (h : l[i]? = some t) : stk (l.take (i + 1)) = t :: pop (stk (l.take i)) t.f := by
  unfold stk
  rw [List.take_add_one, h, List.foldl_append]
  rfl
theorem prv_next {l : List Tu} {i : Nat} {t : Tu} (h : l[i]? = some t) : (l.take (i + 1)).getLast? = some t := by
  rw [List.take_add_one, h]
  simp
theorem go_bad {ev : Int} {p : Option Tu} {s l : List Tu} {i : Nat} {t : Tu} (h : l[i]? = some t) (h1 : ¬ InR ev t) : goP ev p s (l.drop i) = 2 := by
  obtain ⟨hi, rfl⟩ := List.getElem?_eq_some_iff.1 h
  rw [List.drop_eq_getElem_cons hi, goP, if_neg h1]
theorem go_ord {ev : Int} {p : Option Tu} {s l : List Tu} {i : Nat} {t : Tu} (h : l[i]? = some t) (h1 : InR ev t) (h2 : Ord p t) : goP ev p s (l.drop i) = 25 := by
  obtain ⟨hi, rfl⟩ := List.getElem?_eq_some_iff.1 h
  rw [List.drop_eq_getElem_cons hi, goP, if_pos h1, if_pos h2]
theorem go_tight {ev : Int} {p : Option Tu} {s l : List Tu} {i : Nat} {t : Tu} (h : l[i]? = some t) (h1 : InR ev t) (h2 : ¬ Ord p t) (h3 : Tight (pop s t.f) t) : goP ev p s (l.drop i) = 21 := by
  obtain ⟨hi, rfl⟩ := List.getElem?_eq_some_iff.1 h
  rw [List.drop_eq_getElem_cons hi, goP, if_pos h1, if_neg h2, if_pos h3]
theorem go_next {ev : Int} {p : Option Tu} {s l : List Tu} {i : Nat} {t : Tu} (h : l[i]? = some t) (h1 : InR ev t) (h2 : ¬ Ord p t) (h3 : ¬ Tight (pop s t.f) t) : goP ev p s (l.drop i) = goP ev (some t) (t :: pop s t.f) (l.drop (i + 1)) := by
  obtain ⟨hi, rfl⟩ := List.getElem?_eq_some_iff.1 h
  rw [List.drop_eq_getElem_cons hi, goP, if_pos h1, if_neg h2, if_neg h3]
/-- what holds in front of an index while nothing was found: for the loops of both checks -/
structure At (ev : Int) (l : List Tu) (i : Nat) : Prop where
  rest : goP ev none [] l = goP ev (l.take i).getLast? (stk (l.take i)) (l.drop i)
  inv : Inv (lf (l.take i).getLast?) (l.take i) (stk (l.take i))
theorem At.zero (ev : Int) (l : List Tu) : At ev l 0 := ⟨by simp [stk], by simpa [stk] using Inv.nil _⟩
theorem At.next {ev : Int} {l : List Tu} {i : Nat} {t : Tu} (a : At ev l i) (h : l[i]? = some t) (h1 : InR ev t) (h2 : ¬ Ord (l.take i).getLast? t) (h3 : ¬ Tight (pop (stk (l.take i)) t.f) t) : At ev l (i + 1) := by
  refine ⟨?_, ?_⟩
  · rw [a.rest, go_next h h1 h2 h3, prv_next h, stk_next h]
  · rw [prv_next h, stk_next h]
    have e : l.take (i + 1) = l.take i ++ [t] := by rw [List.take_add_one, h]; rfl
    rw [e]
    exact a.inv.step (lf_le h1 h2) h3
theorem At.bad {ev : Int} {l : List Tu} {i : Nat} {t : Tu} (a : At ev l i) (h1 : InR ev t) (h2 : ¬ Ord (l.take i).getLast? t) : Tight (pop (stk (l.take i)) t.f) t ↔ Bad ev (l.take i) t := tight_iff a.inv (lf_le h1 h2) h1
theorem At.done {ev : Int} {l : List Tu} (a : At ev l l.length) : goP ev none [] l = 0 := by
  rw [a.rest, List.drop_length]
  rfl
/-- the fraction of an event: numerator and denominator, not in lowest terms -/
def prS (e : Int) (p : Int × Int) (t : Tu) : Int × Int := if InT t e then (p.1 * t.n, p.2 * t.a) else p
def prT (l : List Tu) (e : Int) : Int × Int := l.foldl (prS e) (1, 1)
theorem pr_next {l : List Tu} {i : Nat} {t : Tu} (e : Int) (h : l[i]? = some t) : prT (l.take (i + 1)) e = prS e (prT (l.take i) e) t := by
  unfold prT
  rw [List.take_add_one, h, List.foldl_append]
  rfl
theorem pr_all (l : List Tu) (e : Int) : prT (l.take l.length) e = prT l e := by rw [List.take_length]
def p32 : Nat → Int
  | 0 => 1
  | n + 1 => p32 n * 32
theorem p32_pos : ∀ n, 1 ≤ p32 n
  | 0 => Int.le_refl _
  | n + 1 => by have := p32_pos n; unfold p32; omega
theorem p32_mono {a b : Nat} (h : a ≤ b) : p32 a ≤ p32 b := by
  induction h with
  | refl => exact Int.le_refl _
  | @step m _ ih => have h1 := p32_pos m; have h2 : p32 m.succ = p32 m * 32 := rfl; omega
theorem mul_bd {x y : Int} {k : Nat} (hx : 1 ≤ x ∧ x ≤ p32 k) (hy : Rt y) : 1 ≤ x * y ∧ x * y ≤ p32 (k + 1) := by
  obtain ⟨h1, h2⟩ := hx
  obtain ⟨h3, h4⟩ := hy
  constructor
  · exact Int.le_trans (by omega : (1 : Int) ≤ 1 * 1) (Int.mul_le_mul h1 h3 (by omega) (by omega))
  · exact Int.mul_le_mul h2 h4 (by omega) (by omega)
theorem pr_bd {e : Int} : ∀ (l : List Tu) (p : Int × Int) (k : Nat), (∀ t, t ∈ l → Rt t.a ∧ Rt t.n) → (1 ≤ p.1 ∧ p.1 ≤ p32 k) → (1 ≤ p.2 ∧ p.2 ≤ p32 k) →
    (1 ≤ (l.foldl (prS e) p).1 ∧ (l.foldl (prS e) p).1 ≤ p32 (k + (l.filter (fun t => decide (InT t e))).length)) ∧ (1 ≤ (l.foldl (prS e) p).2 ∧ (l.foldl (prS e) p).2 ≤ p32 (k + (l.filter (fun t => decide (InT t e))).length))
  | [], _, _, _, h1, h2 => ⟨h1, h2⟩
  | t :: l, p, k, ht, h1, h2 => by
    have h0 := ht t (by simp)
    have hl : ∀ u, u ∈ l → Rt u.a ∧ Rt u.n := fun u hu => ht u (by simp [hu])
    rw [List.foldl_cons]
    by_cases c : InT t e
    · rw [List.filter_cons_of_pos (by simpa using c), List.length_cons]
      have := pr_bd (e := e) l (prS e p t) (k + 1) hl (by unfold prS; rw [if_pos c]; exact mul_bd h1 h0.2) (by unfold prS; rw [if_pos c]; exact mul_bd h2 h0.1)
      have e2 : k + 1 + (l.filter (fun t => decide (InT t e))).length = k + ((l.filter (fun t => decide (InT t e))).length + 1) := by omega
      rw [e2] at this
      exact this
    · rw [List.filter_cons_of_neg (by simpa using c)]
      exact pr_bd (e := e) l (prS e p t) k hl (by unfold prS; rw [if_neg c]; exact h1) (by unfold prS; rw [if_neg c]; exact h2)
/-- under tuplets that pass the check, at every index of the loop -/
theorem pr_ok {ev : Int} {l : List Tu} (h : ckT ev l = 0) (e : Int) (i : Nat) : (1 ≤ (prT (l.take i) e).1 ∧ (prT (l.take i) e).1 ≤ 32768) ∧ (1 ≤ (prT (l.take i) e).2 ∧ (prT (l.take i) e).2 ≤ 32768) := by
  obtain ⟨_, _, _, hr, h3⟩ := ckT_ok h
  have hb := pr_bd (e := e) (l.take i) (1, 1) 0 (fun t ht => by have := hr t (List.mem_of_mem_take ht); exact ⟨this.2.2.2.1, this.2.2.2.2.1⟩) ⟨by decide, by decide⟩ ⟨by decide, by decide⟩
  have hle : ((l.take i).filter (fun t => decide (InT t e))).length ≤ 3 := by
    refine Nat.le_trans ?_ (h3 e)
    exact (List.Sublist.filter _ (List.take_sublist i l)).length_le
  have hm : p32 (0 + ((l.take i).filter (fun t => decide (InT t e))).length) ≤ 32768 := by
    refine Int.le_trans (p32_mono (b := 3) (by omega)) (by decide)
  unfold prT
  exact ⟨⟨hb.1.1, Int.le_trans hb.1.2 hm⟩, ⟨hb.2.1, Int.le_trans hb.2.2 hm⟩⟩
/-- the length of an event, and its error -/
def lenV (l : List Tu) (e w : Int) : Int := if 0 ≤ w ∧ w ≤ 7741440 then (if w * (prT l e).1 % (prT l e).2 = 0 then w * (prT l e).1 / (prT l e).2 else 0) else 0
def lenE (l : List Tu) (e w : Int) : Int := if 0 ≤ w ∧ w ≤ 7741440 then (if w * (prT l e).1 % (prT l e).2 = 0 then 0 else 16) else 2
/-- the errors of all lengths from an event on -/
def lensE (l : List Tu) : Int → List Int → Int
  | _, [] => 0
  | e, w :: r => if lenE l e w = 0 then lensE l (e + 1) r else lenE l e w
def lens (l : List Tu) : Int → List Int → List Int
  | _, [] => []
  | e, w :: r => lenV l e w :: lens l (e + 1) r
theorem lens_len (l : List Tu) : ∀ (r : List Int) (e : Int), (lens l e r).length = r.length
  | [], _ => rfl
  | _ :: r, e => by rw [lens, List.length_cons, List.length_cons, lens_len l r]
theorem lens_at (l : List Tu) : ∀ (r : List Int) (e : Int) (i : Nat) (w : Int), r[i]? = some w → (lens l e r)[i]? = some (lenV l (e + i) w)
  | [], _, i, w, h => by simp at h
  | _ :: r, e, 0, w, h => by
    simp at h
    rw [lens, h]
    simp
  | _ :: r, e, i + 1, w, h => by
    rw [lens, List.getElem?_cons_succ, lens_at l r (e + 1) i w (by simpa using h)]
    rw [show e + 1 + (i : Int) = e + ((i + 1 : Nat) : Int) by omega]
theorem lensE_step {l : List Tu} {r : List Int} {i : Nat} {w : Int} (h : r[i]? = some w) (h0 : lenE l i w = 0) : lensE l i (r.drop i) = lensE l ((i + 1 : Nat) : Int) (r.drop (i + 1)) := by
  obtain ⟨hi, rfl⟩ := List.getElem?_eq_some_iff.1 h
  rw [List.drop_eq_getElem_cons hi, lensE, if_pos h0]
  rfl
theorem lensE_stop {l : List Tu} {r : List Int} {i : Nat} {w : Int} (h : r[i]? = some w) (h0 : lenE l i w ≠ 0) : lensE l i (r.drop i) = lenE l i w := by
  obtain ⟨hi, rfl⟩ := List.getElem?_eq_some_iff.1 h
  rw [List.drop_eq_getElem_cons hi, lensE, if_neg h0]
def lensT (l : List Tu) (r : List Int) : Int := if ckT r.length l = 0 then lensE l 0 r else ckT r.length l
end Go.Proofs.Ytabaiklagobimaa
