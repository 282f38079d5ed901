import Derived.Test.YtgepjpbdfjcaaaaDoorRw
import Derived.Test.YtgepjpbdfjcaaaaDoorS14
import Derived.Maps.AppendAt
import Derived.BigRegion
/-! Spanners: indices of spans -/
namespace Go.Proofs.YtgepjpbdfjcaaaaDoor
open Go.RowKit
attribute [local go_sem] World.cell?_alloc_some

/-- the indices of the spans that satisfy a condition -/
def idx (P : Sp → Bool) : List Sp → Nat → List Int
  | [], _ => []
  | x :: r, i => if P x then (i : Int) :: idx P r (i + 1) else idx P r (i + 1)
theorem idx_app (P : Sp → Bool) (x : Sp) : ∀ (l : List Sp) (i : Nat), idx P (l ++ [x]) i = idx P l i ++ (if P x then [((i + l.length : Nat) : Int)] else [])
  | [], i => by simp [idx]
  | y :: r, i => by
    rw [List.cons_append, idx, idx, idx_app P x r (i + 1)]
    have e : i + 1 + r.length = i + (y :: r).length := by simp; omega
    rw [e]
    split <;> simp
theorem idx_len (P : Sp → Bool) : ∀ (l : List Sp) (i : Nat), (idx P l i).length ≤ l.length
  | [], _ => Nat.le_refl _
  | y :: r, i => by
    rw [idx]
    have := idx_len P r (i + 1)
    split <;> simp <;> omega
theorem idx_take {P : Sp → Bool} {l : List Sp} {i : Nat} {x : Sp} (h : l[i]? = some x) : idx P (l.take (i + 1)) 0 = idx P (l.take i) 0 ++ (if P x then [(i : Int)] else []) := by
  have hi := (List.getElem?_eq_some_iff.1 h).1
  rw [take_one h, idx_app, List.length_take, Nat.min_eq_left (by omega), Nat.zero_add]
theorem idx_pre (P : Sp → Bool) (l : List Sp) : ∀ i : Nat, ∃ r, idx P l 0 = idx P (l.take i) 0 ++ r := by
  intro i
  have : ∀ (a b : List Sp) (k : Nat), idx P (a ++ b) k = idx P a k ++ idx P b (k + a.length) := by
    intro a
    induction a with
    | nil => intro b k; simp [idx]
    | cons y a ih =>
      intro b k
      rw [List.cons_append, idx, idx, ih, show k + 1 + a.length = k + (y :: a).length by simp; omega]
      split <;> simp
  exact ⟨_, by conv => lhs; rw [← List.take_append_drop i l, this]⟩
theorem idx_hit {P : Sp → Bool} {l : List Sp} {i : Nat} {x : Sp} (h : l[i]? = some x) (hx : P x = true) : (idx P l 0)[(idx P (l.take i) 0).length]? = some (i : Int) := by
  obtain ⟨r, hr⟩ := idx_pre P l (i + 1)
  rw [hr, idx_take h, if_pos hx, List.append_assoc, List.getElem?_append_right (Nat.le_refl _), Nat.sub_self]
  rfl
def covP (K : Int) (p : Pl) (x : Sp) : Bool := decide (x.k = K ∧ Cov x p)
def crsP (m : Int) (x : Sp) : Bool := decide (x.f.m ≤ m ∧ m ≤ x.t.m)
set_option maxHeartbeats 3200000 in
theorem covC_any (x : Sp) (p : Pl) (K : Int) (b1 b2 : Nat) (w : World) (h1 : w.cell? ⟨b1, 0, none⟩ = some (.int .i64 K)) (h2 : B4 w b2 p) :
    Calls Tryd.prog 53 #[.agg #[.int .i64 x.k, .int .i64 x.f.m, .int .i64 x.f.a, .int .i64 x.f.s, .int .i64 x.f.v, .int .i64 x.t.m, .int .i64 x.t.a, .int .i64 x.t.s, .int .i64 x.t.v], .pointer (some ⟨b1, 0, none⟩), .pointer (some ⟨b2, 0, none⟩)] w fun e w' => e = .returned (.bool (covP K p x)) ∧ G w w' := by
  obtain ⟨z0, z1, z2, z3⟩ := h2
  obtain ⟨R, hR⟩ : ∃ z : Bool, Hid (z = covP K p x) := ⟨_, rfl⟩
  rw [← hR.out]
  obtain ⟨k, xf, xt⟩ := x
  dsimp only
  by_cases hk : k = K
  · subst hk
    have HR := Lib.hid (show R = decide (Cov ⟨k, xf, xt⟩ p) by rw [hR.out]; unfold covP; simp)
    go_enter Tryd.func53, Tryd.ntmps53
    go_wp2_with fail
    refine (covers_any ⟨k, xf, xt⟩ p _).mono ?_
    rintro e w1 ⟨rfl, hG1⟩
    rw [← HR.out]
    go_wp2_with fail
    go_ret
    exact ⟨rfl, by (repeat' (first | (with_reducible exact G.refl _) | (with_reducible assumption) | (with_reducible refine G.drewN ?_ _) | (with_reducible refine G.drew ?_) | (with_reducible refine G.alloc ?_ _) | (with_reducible refine G.setCell ?_ (by first | (with_reducible exact Nat.le_refl _) | (simp; done) | (simp; omega) | omega) _) | (with_reducible refine G.trans ?_ (by assumption))))⟩
  · have HR := Lib.hid (show R = false by rw [hR.out]; exact decide_eq_false (fun c => hk c.1))
    have e1 : (k == K) = false := beq_false_of_ne hk
    clear hk
    go_enter Tryd.func53, Tryd.ntmps53
    go_wp2_with fail
    go_ret
    exact ⟨by rw [HR.out]; first | done | rfl, by (repeat' (first | (with_reducible exact G.refl _) | (with_reducible assumption) | (with_reducible refine G.drewN ?_ _) | (with_reducible refine G.drew ?_) | (with_reducible refine G.alloc ?_ _) | (with_reducible refine G.setCell ?_ (by first | (with_reducible exact Nat.le_refl _) | (simp; done) | (simp; omega) | omega) _) | (with_reducible refine G.trans ?_ (by assumption))))⟩
set_option maxHeartbeats 3200000 in
theorem crsC_any (x : Sp) (m : Int) (b1 : Nat) (w : World) (h1 : w.cell? ⟨b1, 0, none⟩ = some (.int .i64 m)) :
    Calls Tryd.prog 55 #[.agg #[.int .i64 x.k, .int .i64 x.f.m, .int .i64 x.f.a, .int .i64 x.f.s, .int .i64 x.f.v, .int .i64 x.t.m, .int .i64 x.t.a, .int .i64 x.t.s, .int .i64 x.t.v], .pointer (some ⟨b1, 0, none⟩)] w fun e w' => e = .returned (.bool (crsP m x)) ∧ G w w' := by
  obtain ⟨R, hR⟩ : ∃ z : Bool, Hid (z = crsP m x) := ⟨_, rfl⟩
  rw [← hR.out]
  go_enter Tryd.func55, Tryd.ntmps55
  go_wp2_with fail
  all_goals (go_ret; exact ⟨ret_bool (by rw [hR.out]; unfold crsP; grind), by (repeat' (first | (with_reducible exact G.refl _) | (with_reducible assumption) | (with_reducible refine G.drewN ?_ _) | (with_reducible refine G.drew ?_) | (with_reducible refine G.alloc ?_ _) | (with_reducible refine G.setCell ?_ (by first | (with_reducible exact Nat.le_refl _) | (simp; done) | (simp; omega) | omega) _) | (with_reducible refine G.trans ?_ (by assumption))))⟩)
end Go.Proofs.YtgepjpbdfjcaaaaDoor
