import Derived.Test.YtabaiklagobimaaTMath
/-! Tuplets, in plain terms: what passes the check; parts, insertions. -/
namespace Go.Proofs.Ytabaiklagobimaa

theorem aft_trans {a b c : Tu} (h1 : ¬ Aft b a) (h2 : ¬ Aft c b) : ¬ Aft c a := by unfold Aft at *; omega
/-- what the check forbids, by order alone -/
def Bd (b : List Tu) (t : Tu) : Prop := (∃ k, k ∈ b ∧ t.f < en k ∧ en k < en t) ∨ 3 ≤ (b.filter (fun k => decide (t.f < en k))).length
theorem tight_bd {x : Int} {b s : List Tu} {t : Tu} (h : Inv x b s) (hx : x ≤ t.f) : Tight (pop s t.f) t ↔ Bd b t := by
  rw [pop_filter s t.f h.srt]
  have hp := h.same t.f hx
  constructor
  · rintro (h3 | ⟨o, ho, hlt⟩)
    · exact .inr (by rw [← hp.length_eq]; exact h3)
    · obtain ⟨ob, oe⟩ := List.mem_filter.1 (hp.mem_iff.1 (List.mem_of_head? ho))
      exact .inl ⟨o, ob, of_decide_eq_true oe, hlt⟩
  · rintro (⟨k, kb, k3, k2⟩ | h3)
    · have hm : k ∈ s.filter (fun k => decide (t.f < en k)) := hp.mem_iff.2 (List.mem_filter.2 ⟨kb, decide_eq_true k3⟩)
      have hs := h.srt.filter (fun k => decide (t.f < en k))
      right
      cases hq : s.filter (fun k => decide (t.f < en k)) with
      | nil => rw [hq] at hm; cases hm
      | cons o r =>
        rw [hq] at hm hs
        refine ⟨o, rfl, ?_⟩
        rcases List.mem_cons.1 hm with rfl | hm
        · exact k2
        · have := (List.pairwise_cons.1 hs).1 k hm; omega
    · left; rw [hp.length_eq]; exact h3
/-- tuplets that pass, behind others -/
def Val (ev : Int) : List Tu → List Tu → Prop
  | _, [] => True
  | b, t :: r => InR ev t ∧ (∀ q, q ∈ b → ¬ Aft t q) ∧ ¬ Bd b t ∧ Val ev (b ++ [t]) r
theorem goP_val {ev : Int} : ∀ (r : List Tu) (p : Option Tu) (s b : List Tu), Inv (lf p) b s → (∀ t, ¬ Ord p t ↔ ∀ q, q ∈ b → ¬ Aft t q) → (goP ev p s r = 0 ↔ Val ev b r)
  | [], _, _, _, _, _ => ⟨fun _ => trivial, fun _ => rfl⟩
  | t :: r, p, s, b, hI, hp => by
    unfold goP Val
    by_cases h1 : InR ev t
    · rw [if_pos h1]
      by_cases h2 : Ord p t
      · rw [if_pos h2]
        exact ⟨fun h => absurd h (by decide), fun h => absurd h2 ((hp t).2 h.2.1)⟩
      · rw [if_neg h2]
        have hx := lf_le h1 h2
        have hb := (hp t).1 h2
        by_cases h3 : Tight (pop s t.f) t
        · rw [if_pos h3]
          exact ⟨fun h => absurd h (by decide), fun h => absurd ((tight_bd hI hx).1 h3) h.2.2.1⟩
        · rw [if_neg h3]
          have ih := goP_val (ev := ev) r (some t) (t :: pop s t.f) (b ++ [t]) (hI.step hx h3) (fun u => by
            constructor
            · intro hu q hq
              have hut : ¬ Aft u t := fun c => hu ⟨t, rfl, c⟩
              rcases List.mem_append.1 hq with hq | hq
              · exact aft_trans (hb q hq) hut
              · rw [List.mem_singleton.1 hq]; exact hut
            · rintro hq ⟨q, hqt, c⟩
              obtain rfl := Option.some.inj hqt
              exact hq t (by simp) c)
          rw [ih]
          exact ⟨fun h => ⟨h1, hb, fun c => h3 ((tight_bd hI hx).2 c), h⟩, fun h => h.2.2.2⟩
    · rw [if_neg h1]
      exact ⟨fun h => absurd h (by decide), fun h => absurd h.1 h1⟩
theorem val_iff {ev : Int} {l : List Tu} : goP ev none [] l = 0 ↔ Val ev [] l :=
  goP_val l none [] [] (Inv.nil _) (fun t => ⟨fun _ q h => (by cases h), fun _ ⟨q, h, _⟩ => (by cases h)⟩)
theorem ckT_val {ev : Int} {l : List Tu} (h1 : 0 ≤ ev ∧ ev ≤ 128) (h2 : l.length ≤ 16) : ckT ev l = 0 ↔ Val ev [] l := by
  unfold ckT
  rw [if_pos h1, if_pos h2]
  exact val_iff
/-- some of the tuplets pass, too -/
theorem Bd.mono {b b' : List Tu} {t : Tu} (hs : b'.Sublist b) (h : Bd b' t) : Bd b t := by
  rcases h with ⟨k, hk, h⟩ | h
  · exact .inl ⟨k, hs.subset hk, h⟩
  · exact .inr (Nat.le_trans h (hs.filter _).length_le)
theorem Val.filter {ev : Int} (P : Tu → Bool) : ∀ (r b : List Tu), Val ev b r → Val ev (b.filter P) (r.filter P)
  | [], _, _ => trivial
  | t :: r, b, h => by
    obtain ⟨h1, h2, h3, h4⟩ := h
    have ih := Val.filter P r (b ++ [t]) h4
    rw [List.filter_append] at ih
    by_cases c : P t = true
    · rw [List.filter_cons_of_pos c]
      have e : [t].filter P = [t] := by rw [List.filter_cons_of_pos c]; rfl
      rw [e] at ih
      exact ⟨h1, fun q hq => h2 q (List.mem_filter.1 hq).1, fun k => h3 (k.mono List.filter_sublist), ih⟩
    · rw [List.filter_cons_of_neg c]
      have e : [t].filter P = [] := by rw [List.filter_cons_of_neg c]; rfl
      rw [e, List.append_nil] at ih
      exact ih
theorem ckT_filter {ev : Int} {l : List Tu} (P : Tu → Bool) (h : ckT ev l = 0) : ckT ev (l.filter P) = 0 := by
  obtain ⟨h1, h2, h3, _⟩ := ckT_ok h
  have := (Val.filter P l [] (val_iff.1 h3))
  exact (ckT_val h1 (Nat.le_trans (List.length_filter_le _ _) h2)).2 this
/-- tuplets that do not contain the event don't matter -/
theorem pr_filter (e : Int) : ∀ (l : List Tu) (p : Int × Int), (l.filter (fun t => decide (InT t e))).foldl (prS e) p = l.foldl (prS e) p
  | [], _ => rfl
  | t :: l, p => by
    by_cases c : InT t e
    · rw [List.filter_cons_of_pos (by simpa using c), List.foldl_cons, List.foldl_cons, pr_filter e l]
    · rw [List.filter_cons_of_neg (by simpa using c), List.foldl_cons, pr_filter e l]
      congr 1
      unfold prS
      rw [if_neg c]
theorem prT_filter (l : List Tu) (e : Int) : prT (l.filter (fun t => decide (InT t e))) e = prT l e := pr_filter e l (1, 1)

/-- events that are inserted -/
def insT (at_ cnt : Int) (t : Tu) : Tu := if at_ ≤ t.f then ⟨t.f + cnt, t.c, t.a, t.n⟩ else if InT t at_ then ⟨t.f, t.c + cnt, t.a, t.n⟩ else t
def fi (at_ cnt x : Int) : Int := if x < at_ then x else x + cnt
def ei (at_ cnt y : Int) : Int := if y ≤ at_ then y else y + cnt
theorem ins_f (at_ cnt : Int) (t : Tu) : (insT at_ cnt t).f = fi at_ cnt t.f := by
  unfold insT fi
  by_cases h : at_ ≤ t.f
  · rw [if_pos h, if_neg (show ¬ t.f < at_ by omega)]
  · by_cases k : InT t at_
    · rw [if_neg h, if_pos k, if_pos (show t.f < at_ by omega)]
    · rw [if_neg h, if_neg k, if_pos (show t.f < at_ by omega)]
theorem ins_e {at_ cnt : Int} {t : Tu} (h : 1 ≤ t.c) : en (insT at_ cnt t) = ei at_ cnt (en t) := by
  unfold insT ei
  by_cases h1 : at_ ≤ t.f
  · rw [if_pos h1, if_neg (by unfold en; omega)]; unfold en; dsimp only; omega
  · rw [if_neg h1]
    by_cases k : InT t at_
    · rw [if_pos k]
      have := k.2
      rw [if_neg (by omega)]; unfold en; dsimp only; omega
    · rw [if_neg k, if_pos]
      unfold InT at k
      omega
theorem ins_a (at_ cnt : Int) (t : Tu) : (insT at_ cnt t).a = t.a ∧ (insT at_ cnt t).n = t.n := by
  unfold insT
  by_cases h1 : at_ ≤ t.f
  · rw [if_pos h1]; exact ⟨rfl, rfl⟩
  · rw [if_neg h1]
    by_cases k : InT t at_
    · rw [if_pos k]; exact ⟨rfl, rfl⟩
    · rw [if_neg k]; exact ⟨rfl, rfl⟩
theorem fe_iff {at_ cnt x y : Int} (hc : 0 ≤ cnt) : fi at_ cnt x < ei at_ cnt y ↔ x < y := by unfold fi ei; (repeat' split) <;> omega
theorem ee_iff {at_ cnt x y : Int} (hc : 0 ≤ cnt) : ei at_ cnt x < ei at_ cnt y ↔ x < y := by unfold ei; (repeat' split) <;> omega
theorem Val.ins {ev at_ cnt : Int} (h0 : 0 ≤ at_) (h1 : at_ ≤ ev) (hc : 0 ≤ cnt) : ∀ (r b : List Tu), (∀ k, k ∈ b → 1 ≤ k.c) → Val ev b r → Val (ev + cnt) (b.map (insT at_ cnt)) (r.map (insT at_ cnt))
  | [], _, _, _ => trivial
  | t :: r, b, hb, h => by
    obtain ⟨⟨i1, i2, i3, i4⟩, h2, h3, h4⟩ := h
    have hf := ins_f at_ cnt t
    have he := ins_e (at_ := at_) (cnt := cnt) i1
    have ha := ins_a at_ cnt t
    refine ⟨⟨?_, ?_, ?_, ?_⟩, ?_, ?_, ?_⟩
    · unfold en at he; unfold fi at hf; unfold ei at he; (repeat' split at hf) <;> (repeat' split at he) <;> omega
    · unfold fi at hf; split at hf <;> omega
    · unfold en at he; unfold ei at he; split at he <;> omega
    · rw [ha.1, ha.2]; exact i4
    · intro q hq
      obtain ⟨k, hk, rfl⟩ := List.mem_map.1 hq
      have h5 := h2 k hk
      have kf := ins_f at_ cnt k
      have ke := ins_e (at_ := at_) (cnt := cnt) (hb k hk)
      unfold Aft at h5 ⊢
      unfold en at he ke
      unfold fi at hf kf
      unfold ei at he ke
      (repeat' split at hf) <;> (repeat' split at he) <;> (repeat' split at kf) <;> (repeat' split at ke) <;> omega
    · intro c
      refine h3 ?_
      rcases c with ⟨q, hq, c1, c2⟩ | c
      · obtain ⟨k, hk, rfl⟩ := List.mem_map.1 hq
        rw [hf, ins_e (hb k hk)] at c1
        rw [he, ins_e (hb k hk)] at c2
        exact .inl ⟨k, hk, (fe_iff hc).1 c1, (ee_iff hc).1 c2⟩
      · right
        rw [List.filter_map, List.length_map] at c
        refine Nat.le_trans c (Nat.le_of_eq ?_)
        congr 1
        refine List.filter_congr fun k hk => ?_
        show decide ((insT at_ cnt t).f < en (insT at_ cnt k)) = _
        rw [hf, ins_e (hb k hk)]
        exact decide_eq_decide.2 (fe_iff hc)
    · have := Val.ins h0 h1 hc r (b ++ [t]) (fun k hk => by
        rcases List.mem_append.1 hk with hk | hk
        · exact hb k hk
        · rw [List.mem_singleton.1 hk]; exact i1) h4
      rw [List.map_append] at this
      exact this
theorem ckT_ins {ev at_ cnt : Int} {l : List Tu} (h : ckT ev l = 0) (h0 : 0 ≤ at_) (h1 : at_ ≤ ev) (hc : 0 ≤ cnt) (h128 : cnt ≤ 128 - ev) : ckT (ev + cnt) (l.map (insT at_ cnt)) = 0 := by
  obtain ⟨e1, e2, e3, _⟩ := ckT_ok h
  refine (ckT_val (by omega) (by rw [List.length_map]; exact e2)).2 ?_
  exact Val.ins h0 h1 hc l [] (fun k hk => (by cases hk)) (val_iff.1 e3)
end Go.Proofs.Ytabaiklagobimaa
