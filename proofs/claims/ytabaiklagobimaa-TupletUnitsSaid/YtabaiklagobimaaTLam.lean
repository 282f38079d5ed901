import Derived.Test.YtabaiklagobimaaTDel
/-! Tuplets, in plain terms: what passes the check, in terms that don't depend on the order; after a deletion. -/
namespace Go.Proofs.Ytabaiklagobimaa

/-- two tuplets are apart, or one within the other -/
def Lam (u v : Tu) : Prop := en u ≤ v.f ∨ en v ≤ u.f ∨ (v.f ≤ u.f ∧ en u ≤ en v) ∨ (u.f ≤ v.f ∧ en v ≤ en u)
theorem Lam.symm {u v : Tu} (h : Lam u v) : Lam v u := by unfold Lam at *; omega
theorem val_of {ev : Int} : ∀ (r b : List Tu), (∀ t, t ∈ r → InR ev t) → (b ++ r).Pairwise (fun u v => ¬ Aft v u) → (b ++ r).Pairwise Lam → (∀ e : Int, ((b ++ r).filter (fun k => decide (InT k e))).length ≤ 3) → Val ev b r
  | [], _, _, _, _, _ => trivial
  | t :: r, b, hi, ho, hl, hc => by
    have h1 := hi t (by simp)
    have ord : ∀ q, q ∈ b → ¬ Aft t q := fun q hq => (List.pairwise_append.1 ho).2.2 q hq t (by simp)
    have lam : ∀ q, q ∈ b → Lam q t := fun q hq => (List.pairwise_append.1 hl).2.2 q hq t (by simp)
    refine ⟨h1, ord, fun c => ?_, val_of r (b ++ [t]) (fun u hu => hi u (by simp [hu])) (by simpa using ho) (by simpa using hl) (fun e => by simpa using hc e)⟩
    rcases c with ⟨k, hk, c1, c2⟩ | c
    · have h2 := ord k hk
      have h3 := lam k hk
      have h4 := h1.1
      unfold Aft at h2
      unfold Lam at h3
      unfold en at *
      omega
    · have h5 := hc t.f
      have e1 : b.filter (fun k => decide (t.f < en k)) = b.filter (fun k => decide (InT k t.f)) := List.filter_congr fun k hk => decide_eq_decide.2 (by
        have h2 := ord k hk
        unfold Aft at h2
        unfold InT
        omega)
      rw [e1] at c
      have ht : InT t t.f := ⟨Int.le_refl _, by have := h1.1; unfold en; omega⟩
      rw [List.filter_append, List.length_append, List.filter_cons_of_pos (by simpa using ht), List.length_cons] at h5
      omega
theorem val_to {ev : Int} : ∀ (r b : List Tu), Val ev b r → r.Pairwise (fun u v => ¬ Aft v u) ∧ r.Pairwise Lam ∧ (∀ u, u ∈ b → ∀ v, v ∈ r → ¬ Aft v u ∧ Lam u v)
  | [], _, _ => ⟨.nil, .nil, fun _ _ v hv => (by cases hv)⟩
  | t :: r, b, h => by
    obtain ⟨h1, h2, h3, h4⟩ := h
    obtain ⟨i1, i2, i3⟩ := val_to r (b ++ [t]) h4
    have hbt : ∀ u, u ∈ b → Lam u t := fun u hu => by
      have h5 := h2 u hu
      have h6 : ¬ (t.f < en u ∧ en u < en t) := fun c => h3 (.inl ⟨u, hu, c.1, c.2⟩)
      unfold Aft at h5
      unfold Lam
      omega
    refine ⟨List.pairwise_cons.2 ⟨fun v hv => (i3 t (by simp) v hv).1, i1⟩, List.pairwise_cons.2 ⟨fun v hv => (i3 t (by simp) v hv).2, i2⟩, fun u hu v hv => ?_⟩
    rcases List.mem_cons.1 hv with rfl | hv
    · exact ⟨h2 u hu, hbt u hu⟩
    · exact i3 u (by simp [hu]) v hv
/-- what passes, in other words -/
theorem val_lam {ev : Int} {l : List Tu} : Val ev [] l ↔ (∀ t, t ∈ l → InR ev t) ∧ l.Pairwise (fun u v => ¬ Aft v u) ∧ l.Pairwise Lam ∧ ∀ e : Int, (l.filter (fun k => decide (InT k e))).length ≤ 3 := by
  constructor
  · intro h
    obtain ⟨a, b⟩ := goP_ok l none [] [] (Inv.nil _) (val_iff.2 h)
    obtain ⟨c, d, _⟩ := val_to l [] h
    exact ⟨a, c, d, fun e => by simpa using b e (by simp)⟩
  · rintro ⟨a, b, c, d⟩
    exact val_of l [] a (by simpa using b) (by simpa using c) (fun e => by simpa using d e)
/-- the tuplets after a deletion, not yet in order -/
def delL (at_ cnt : Int) (l : List Tu) : List Tu := (l.map (delT at_ cnt)).filter (fun t => decide (0 < t.c))
theorem mv_lt {at_ cnt x y : Int} (hc : 0 ≤ cnt) (hd : ¬ (at_ ≤ x ∧ x < at_ + cnt)) : mv at_ cnt x < mv at_ cnt y ↔ x < y := by unfold mv; omega
theorem mv_le {at_ cnt x y : Int} (hc : 0 ≤ cnt) (hd : ¬ (at_ ≤ x ∧ x < at_ + cnt)) : mv at_ cnt y ≤ mv at_ cnt x ↔ y ≤ x := by
  have := mv_lt (y := y) hc hd
  omega
/-- the event that an event was before -/
def bk (at_ cnt e : Int) : Int := if e < at_ then e else e + cnt
theorem bk_mv {at_ cnt e : Int} (hc : 0 ≤ cnt) : mv at_ cnt (bk at_ cnt e) = e ∧ ¬ (at_ ≤ bk at_ cnt e ∧ bk at_ cnt e < at_ + cnt) := by
  unfold bk mv
  by_cases h : e < at_
  · rw [if_pos h]; omega
  · rw [if_neg h]; omega
theorem del_en (at_ cnt : Int) (t : Tu) : en (delT at_ cnt t) = mv at_ cnt (en t) := by
  show mv at_ cnt t.f + (mv at_ cnt (en t) - mv at_ cnt t.f) = _
  omega
theorem del_in {at_ cnt : Int} (hc : 0 ≤ cnt) (t : Tu) (e : Int) : InT (delT at_ cnt t) e ↔ InT t (bk at_ cnt e) := by
  obtain ⟨b1, b2⟩ := bk_mv (at_ := at_) (e := e) hc
  have h1 := mv_le (y := t.f) hc b2
  have h2 := mv_lt (y := en t) hc b2
  rw [b1] at h1 h2
  show mv at_ cnt t.f ≤ e ∧ e < en (delT at_ cnt t) ↔ _
  rw [del_en, h1, h2]
  rfl
theorem del_lam {at_ cnt : Int} (hc : 0 ≤ cnt) {u v : Tu} (h : Lam u v) : Lam (delT at_ cnt u) (delT at_ cnt v) := by
  unfold Lam
  rw [del_en, del_en]
  show mv at_ cnt (en u) ≤ mv at_ cnt v.f ∨ mv at_ cnt (en v) ≤ mv at_ cnt u.f ∨ (mv at_ cnt v.f ≤ mv at_ cnt u.f ∧ mv at_ cnt (en u) ≤ mv at_ cnt (en v)) ∨ (mv at_ cnt u.f ≤ mv at_ cnt v.f ∧ mv at_ cnt (en v) ≤ mv at_ cnt (en u))
  rcases h with h | h | ⟨h, k⟩ | ⟨h, k⟩
  · exact .inl (mv_mono hc h)
  · exact .inr (.inl (mv_mono hc h))
  · exact .inr (.inr (.inl ⟨mv_mono hc h, mv_mono hc k⟩))
  · exact .inr (.inr (.inr ⟨mv_mono hc h, mv_mono hc k⟩))
/-- after a deletion, brought into order, they pass -/
theorem ckT_del {ev at_ cnt : Int} {l m : List Tu} (h : ckT ev l = 0) (h0 : 0 ≤ at_) (hc : 0 ≤ cnt) (h1 : at_ + cnt ≤ ev) (hp : m.Perm (delL at_ cnt l)) (hs : m.Pairwise (fun u v => ¬ Aft v u)) : ckT (ev - cnt) m = 0 := by
  obtain ⟨e1, e2, e3, _⟩ := ckT_ok h
  obtain ⟨v1, _, v3, v4⟩ := val_lam.1 (val_iff.1 e3)
  refine (ckT_val (by omega) ?_).2 (val_lam.2 ⟨fun t ht => ?_, hs, ?_, fun e => ?_⟩)
  · rw [hp.length_eq]
    unfold delL
    exact Nat.le_trans (List.length_filter_le _ _) (by rw [List.length_map]; exact e2)
  · obtain ⟨a, b⟩ := List.mem_filter.1 (hp.mem_iff.1 ht)
    obtain ⟨u, hu, rfl⟩ := List.mem_map.1 a
    obtain ⟨i1, i2, i3, i4⟩ := v1 u hu
    have b := of_decide_eq_true b
    refine ⟨by omega, (mv_bd h0 i2).1, ?_, i4⟩
    show mv at_ cnt u.f ≤ ev - cnt - (mv at_ cnt (en u) - mv at_ cnt u.f)
    have : mv at_ cnt (en u) ≤ ev - cnt := by unfold mv en; omega
    omega
  · have : (delL at_ cnt l).Pairwise Lam := by
      unfold delL
      exact List.Pairwise.filter _ (List.Pairwise.map _ (fun u v => del_lam hc) v3)
    exact (hp.pairwise_iff (fun h => Lam.symm h)).2 this
  · rw [(hp.filter _).length_eq]
    unfold delL
    rw [List.filter_filter]
    refine Nat.le_trans ?_ (v4 (bk at_ cnt e))
    rw [List.filter_map, List.length_map, ← List.countP_eq_length_filter, ← List.countP_eq_length_filter]
    refine List.countP_mono_left fun k _ hk => ?_
    simp only [Function.comp, Bool.and_eq_true, decide_eq_true_eq] at hk
    exact decide_eq_true ((del_in hc k e).1 hk.1)
end Go.Proofs.Ytabaiklagobimaa
