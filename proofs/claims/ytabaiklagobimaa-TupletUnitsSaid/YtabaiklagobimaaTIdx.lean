import Derived.Test.YtabaiklagobimaaTVal
/-! Tuplets, in plain terms: the stack of indices, and the tree. -/
namespace Go.Proofs.Ytabaiklagobimaa

instance : Inhabited Tu := ⟨⟨0, 0, 0, 0⟩⟩
/-- the indices of the open tuplets, the innermost first -/
def iPop (l : List Tu) (s : List Nat) (x : Int) : List Nat := s.dropWhile (fun k => decide (en (l[k]!) ≤ x))
def istk (l : List Tu) : Nat → List Nat
  | 0 => []
  | i + 1 => i :: iPop l (istk l i) (l[i]!).f
theorem iPop_map (l : List Tu) (s : List Nat) (x : Int) : (iPop l s x).map (fun k => l[k]!) = pop (s.map (fun k => l[k]!)) x := by
  unfold iPop pop
  rw [List.dropWhile_map]
  rfl
theorem at_get {l : List Tu} {i : Nat} {t : Tu} (h : l[i]? = some t) : l[i]! = t := by
  simp [getElem!_def, h]
theorem istk_map {l : List Tu} : ∀ {i : Nat}, i ≤ l.length → (istk l i).map (fun k => l[k]!) = stk (l.take i)
  | 0, _ => rfl
  | i + 1, h => by
    have hi : l[i]? = some (l[i]'(by omega)) := List.getElem?_eq_getElem (by omega)
    rw [stk_next hi, istk, List.map_cons, iPop_map, istk_map (by omega), at_get hi]
theorem iPop_sub (l : List Tu) (s : List Nat) (x : Int) : (iPop l s x).Sublist s := List.dropWhile_sublist _
theorem istk_lt (l : List Tu) : ∀ (i k : Nat), k ∈ istk l i → k < i
  | 0, k, h => by cases h
  | i + 1, k, h => by
    rcases List.mem_cons.1 h with rfl | h
    · omega
    · have := istk_lt l i k ((iPop_sub l _ _).subset h); omega
theorem istk_len (l : List Tu) : ∀ i : Nat, (istk l i).length ≤ i
  | 0 => Nat.le_refl _
  | i + 1 => by
    rw [istk, List.length_cons]
    have h := (iPop_sub l (istk l i) (l[i]!).f).length_le
    have := istk_len l i
    omega
theorem istk_desc (l : List Tu) : ∀ i : Nat, (istk l i).Pairwise (fun a b => b < a)
  | 0 => .nil
  | i + 1 => by
    rw [istk, List.pairwise_cons]
    exact ⟨fun k hk => istk_lt l i k ((iPop_sub l _ _).subset hk), (istk_desc l i).sublist (iPop_sub l _ _)⟩
/-- the index of the innermost open one, or -1; how many there are -/
def tr (l : List Tu) (i : Nat) : Int := match (iPop l (istk l i) (l[i]!).f).head? with
  | none => -1
  | some k => k
def dp (l : List Tu) (i : Nat) : Nat := (iPop l (istk l i) (l[i]!).f).length
theorem dp_eq {l : List Tu} {i : Nat} {t : Tu} (h : l[i]? = some t) : dp l i = (pop (stk (l.take i)) t.f).length := by
  have hi := (List.getElem?_eq_some_iff.1 h).1
  unfold dp
  rw [← List.length_map (f := fun k => l[k]!), iPop_map, istk_map (by omega), at_get h]
/-- the last one below k that contains a tuplet -/
def wn (l : List Tu) (t : Tu) : Nat → Int
  | 0 => -1
  | k + 1 => if Wi t (l[k]!) then k else wn l t k
theorem wn_all {l : List Tu} {t : Tu} : ∀ k : Nat, (wn l t k = -1 ∧ ∀ j, j < k → ¬ Wi t (l[j]!)) ∨ ∃ m, m < k ∧ wn l t k = (m : Int) ∧ Wi t (l[m]!) ∧ ∀ j, m < j → j < k → ¬ Wi t (l[j]!)
  | 0 => .inl ⟨rfl, fun j h => by omega⟩
  | k + 1 => by
    unfold wn
    by_cases c : Wi t (l[k]!)
    · rw [if_pos c]
      exact .inr ⟨k, by omega, rfl, c, fun j h1 h2 => by omega⟩
    · rw [if_neg c]
      rcases wn_all (l := l) (t := t) k with ⟨h1, h2⟩ | ⟨m, h1, h2, h3, h4⟩
      · refine .inl ⟨h1, fun j hj => ?_⟩
        by_cases e : j = k
        · rw [e]; exact c
        · exact h2 j (by omega)
      · refine .inr ⟨m, by omega, h2, h3, fun j hj hj2 => ?_⟩
        by_cases e : j = k
        · rw [e]; exact c
        · exact h4 j hj (by omega)
theorem mem_drop {α : Type} {p : α → Bool} {k : α} : ∀ {s : List α}, k ∈ s → p k = false → k ∈ s.dropWhile p
  | [], h, _ => by cases h
  | a :: s, h, hp => by
    by_cases c : p a = true
    · rw [List.dropWhile_cons_of_pos c]
      rcases List.mem_cons.1 h with rfl | h
      · rw [hp] at c; cases c
      · exact mem_drop h hp
    · rw [List.dropWhile_cons_of_neg c]; exact h
theorem istk_all {l : List Tu} {x : Int} : ∀ (i j : Nat), j < i → (∀ m, m < i → (l[m]!).f ≤ x) → x < en (l[j]!) → j ∈ istk l i
  | 0, j, h, _, _ => by omega
  | i + 1, j, h, hf, hx => by
    rw [istk]
    by_cases e : j = i
    · rw [e]; exact List.mem_cons_self
    · refine List.mem_cons_of_mem _ (mem_drop (istk_all i j (by omega) (fun m hm => hf m (by omega)) hx) (decide_eq_false ?_))
      have := hf i (by omega)
      omega
theorem tr_wn {ev : Int} {l : List Tu} {i : Nat} {t : Tu} (a : At ev l i) (h : l[i]? = some t) (h1 : InR ev t) (h2 : ¬ Ord (l.take i).getLast? t) (h3 : ¬ Tight (pop (stk (l.take i)) t.f) t) : wn l t i = tr l i := by
  have hi := (List.getElem?_eq_some_iff.1 h).1
  have hx := lf_le h1 h2
  have hm := istk_map (l := l) (i := i) (by omega)
  have hpm : (iPop l (istk l i) t.f).map (fun k => l[k]!) = pop (stk (l.take i)) t.f := by rw [iPop_map, hm]
  have hpf := pop_filter _ t.f a.inv.srt
  have hperm := a.inv.same t.f hx
  -- what contains it is open
  have key : ∀ j, j < i → Wi t (l[j]!) → l[j]! ∈ pop (stk (l.take i)) t.f := by
    intro j hj hw
    have hj2 : l[j]? = some (l[j]'(by omega)) := List.getElem?_eq_getElem (by omega)
    rw [hpf]
    refine hperm.mem_iff.2 (List.mem_filter.2 ⟨?_, ?_⟩)
    · rw [at_get hj2]
      exact List.mem_take_iff_getElem.2 ⟨j, by omega, rfl⟩
    · have := hw.2
      have := h1.1
      refine decide_eq_true ?_
      unfold en at *
      omega
  unfold tr
  rw [at_get h]
  cases hq : iPop l (istk l i) t.f with
  | nil =>
    rw [hq] at hpm
    rcases wn_all (l := l) (t := t) i with ⟨e, _⟩ | ⟨m, m1, _, m3, _⟩
    · exact e
    · have := key m m1 m3
      rw [← hpm] at this
      cases this
  | cons o r =>
    show wn l t i = (o : Int)
    have ho : o < i := istk_lt l i o ((iPop_sub l _ t.f).subset (by rw [hq]; simp))
    have hod := (istk_desc l i).sublist (iPop_sub l (istk l i) t.f)
    rw [hq, List.pairwise_cons] at hod
    rw [hq] at hpm
    have ho2 : l[o]? = some (l[o]'(by omega)) := List.getElem?_eq_getElem (by omega)
    have how : Wi t (l[o]!) := by
      refine ⟨?_, Int.not_lt.1 fun c => h3 (.inr ⟨l[o]!, by rw [← hpm]; rfl, c⟩)⟩
      have := a.inv.low (l[o]!) (by rw [at_get ho2]; exact List.mem_take_iff_getElem.2 ⟨o, by omega, rfl⟩)
      omega
    -- an open one of a greater index is not there
    have top : ∀ j, o < j → j < i → ¬ Wi t (l[j]!) := by
      intro j hj hji hw
      have hlow : ∀ m, m < i → (l[m]!).f ≤ t.f := fun m hm => by
        have hm2 : l[m]? = some (l[m]'(by omega)) := List.getElem?_eq_getElem (by omega)
        have := a.inv.low (l[m]!) (by rw [at_get hm2]; exact List.mem_take_iff_getElem.2 ⟨m, by omega, rfl⟩)
        omega
      have hlt : t.f < en (l[j]!) := by have := hw.2; have := h1.1; unfold en at *; omega
      have hm := mem_drop (p := fun k => decide (en (l[k]!) ≤ t.f)) (istk_all i j hji hlow hlt) (decide_eq_false (by omega))
      change j ∈ iPop l (istk l i) t.f at hm
      rw [hq] at hm
      rcases List.mem_cons.1 hm with rfl | hm
      · omega
      · have := hod.1 j hm; omega
    rcases wn_all (l := l) (t := t) i with ⟨_, e⟩ | ⟨m, m1, m2, m3, m4⟩
    · exact absurd how (e o ho)
    · rw [m2]
      rcases Nat.lt_trichotomy m o with c | c | c
      · exact absurd how (m4 o c ho)
      · rw [c]
      · exact absurd m3 (top m c m1)
end Go.Proofs.Ytabaiklagobimaa
