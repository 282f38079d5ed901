import Derived.Test.YtabaiklagobimaaTLam
/-! Tuplets, in plain terms: brought into order by insertion, from the last one on. -/
namespace Go.Proofs.Ytabaiklagobimaa

/-- one more into a list in order that stands from the last one on -/
def ins (x : Tu) : List Tu → List Tu
  | [] => [x]
  | y :: s => if Aft x y then y :: ins x s else x :: y :: s
theorem ins_perm (x : Tu) : ∀ s : List Tu, (ins x s).Perm (x :: s)
  | [] => .refl _
  | y :: s => by
    unfold ins
    by_cases c : Aft x y
    · rw [if_pos c]
      exact ((ins_perm x s).cons y).trans (List.Perm.swap x y s)
    · rw [if_neg c]
theorem ins_sorted {x : Tu} : ∀ {s : List Tu}, s.Pairwise (fun u v => ¬ Aft u v) → (ins x s).Pairwise (fun u v => ¬ Aft u v)
  | [], _ => by simp [ins]
  | y :: s, h => by
    rw [List.pairwise_cons] at h
    unfold ins
    by_cases c : Aft x y
    · rw [if_pos c, List.pairwise_cons]
      refine ⟨fun z hz => ?_, ins_sorted h.2⟩
      rcases List.mem_cons.1 ((ins_perm x s).mem_iff.1 hz) with rfl | hz
      · unfold Aft at *; omega
      · exact h.1 z hz
    · rw [if_neg c, List.pairwise_cons]
      refine ⟨fun z hz => ?_, List.pairwise_cons.2 h⟩
      rcases List.mem_cons.1 hz with rfl | hz
      · exact c
      · exact aft_trans (h.1 z hz) c
/-- where it comes to stand -/
theorem ins_at {x : Tu} : ∀ {p q : List Tu}, (∀ y, y ∈ p → Aft x y) → (∀ y, q.head? = some y → ¬ Aft x y) → ins x (p ++ q) = p ++ x :: q
  | [], [], _, _ => rfl
  | [], y :: q, _, h => by
    rw [List.nil_append, List.nil_append, ins, if_neg (h y rfl)]
  | y :: p, q, hp, hq => by
    rw [List.cons_append, ins, if_pos (hp y (by simp)), ins_at (fun z hz => hp z (by simp [hz])) hq]
    rfl
def rs (l : List Tu) : List Tu := l.foldl (fun s x => ins x s) []
def sortT (l : List Tu) : List Tu := (rs l).reverse
theorem rs_next {l : List Tu} {i : Nat} {t : Tu} (h : l[i]? = some t) : rs (l.take (i + 1)) = ins t (rs (l.take i)) := by
  unfold rs
  rw [List.take_add_one, h, List.foldl_append]
  rfl
theorem fold_perm : ∀ (l s : List Tu), (l.foldl (fun s x => ins x s) s).Perm (l ++ s)
  | [], _ => .refl _
  | x :: l, s => by
    rw [List.foldl_cons]
    refine (fold_perm l (ins x s)).trans ?_
    refine ((ins_perm x s).append_left l).trans ?_
    exact List.perm_middle
theorem fold_sorted : ∀ (l s : List Tu), s.Pairwise (fun u v => ¬ Aft u v) → (l.foldl (fun s x => ins x s) s).Pairwise (fun u v => ¬ Aft u v)
  | [], _, h => h
  | x :: l, s, h => by
    rw [List.foldl_cons]
    exact fold_sorted l _ (ins_sorted h)
theorem sort_perm (l : List Tu) : (sortT l).Perm l := by
  unfold sortT rs
  exact (List.reverse_perm _).trans (by simpa using fold_perm l [])
theorem sort_sorted (l : List Tu) : (sortT l).Pairwise (fun u v => ¬ Aft v u) := by
  unfold sortT rs
  rw [List.pairwise_reverse]
  exact fold_sorted l [] .nil
theorem sort_len (l : List Tu) : (sortT l).length = l.length := (sort_perm l).length_eq
theorem fold_id : ∀ (l s : List Tu), l.Pairwise (fun u v => ¬ Aft v u) → (∀ u, u ∈ s → ∀ v, v ∈ l → ¬ Aft v u) → l.foldl (fun s x => ins x s) s = l.reverse ++ s
  | [], _, _, _ => rfl
  | x :: l, s, h, hs => by
    rw [List.pairwise_cons] at h
    have e : ins x s = x :: s := ins_at (p := []) (fun y hy => (by cases hy)) (fun y hy => hs y (List.mem_of_head? hy) x (by simp))
    rw [List.foldl_cons, e, fold_id l (x :: s) h.2 (fun u hu v hv => by
      rcases List.mem_cons.1 hu with rfl | hu
      · exact h.1 v hv
      · exact hs u hu v (by simp [hv])), List.reverse_cons, List.append_assoc]
    rfl
/-- what is in order stays -/
theorem sort_id {l : List Tu} (h : l.Pairwise (fun u v => ¬ Aft v u)) : sortT l = l := by
  unfold sortT rs
  rw [fold_id l [] h (fun u hu => (by cases hu)), List.append_nil, List.reverse_reverse]
theorem sort_sort (l : List Tu) : sortT (sortT l) = sortT l := sort_id (sort_sorted l)
/-- a deletion, in order, passes -/
theorem ckT_delS {ev at_ cnt : Int} {l : List Tu} (h : ckT ev l = 0) (h0 : 0 ≤ at_) (hc : 0 ≤ cnt) (h1 : at_ + cnt ≤ ev) : ckT (ev - cnt) (sortT (delL at_ cnt l)) = 0 :=
  ckT_del h h0 hc h1 (sort_perm _) (sort_sorted _)
/-- deleting what was inserted yields the same tuplets -/
theorem del_insL {ev at_ cnt : Int} {l : List Tu} (h : ckT ev l = 0) (hc : 0 ≤ cnt) : sortT (delL at_ cnt (l.map (insT at_ cnt))) = l := by
  obtain ⟨_, _, e3, v1, _⟩ := ckT_ok h
  have e : delL at_ cnt (l.map (insT at_ cnt)) = l := by
    unfold delL
    rw [List.map_map]
    have e1 : l.map (delT at_ cnt ∘ insT at_ cnt) = l := by
      refine (List.map_congr_left fun t ht => ?_).trans (List.map_id l)
      exact del_ins hc (v1 t ht).1
    rw [e1]
    exact List.filter_eq_self.2 fun t ht => decide_eq_true (by have := (v1 t ht).1; omega)
  rw [e]
  exact sort_id (val_lam.1 (val_iff.1 e3)).2.1
end Go.Proofs.Ytabaiklagobimaa
