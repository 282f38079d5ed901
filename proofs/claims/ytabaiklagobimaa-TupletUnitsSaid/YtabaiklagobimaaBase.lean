import Derived.Test.YtabaiklagobimaaTRef
import Derived.WalkKit
import Derived.WalkSpells
import Derived.WalkLawsBesides
import Derived.Handy
import Derived.Outline
import Derived.Lib.Hide
import Derived.Deep.QuietTactic
import Derived.BigQuiet
import Derived.Deep.RegionHeld3
import Derived.Deep.LoopGhost
/-! Tuplets: worlds and the smallest functions. -/
namespace Go.Proofs.Ytabaiklagobimaa
open Go.RowKit
attribute [local go_sem] World.cell?_alloc_some

/-- the world has at most new blocks -/
def G (w w' : World) : Prop := Below w.heap.size w w'
theorem G.refl (w : World) : G w w := Below.refl _ _
theorem G.trans {a b c : World} (h : G a b) (k : G b c) : G a c := Below.trans h (Below.mono k h.size)
theorem G.alloc {a b : World} (h : G a b) (o : Obj) : G a (b.alloc o) := Below.alloc h h.size o
theorem G.drew {a b : World} (h : G a b) : G a b.drew := Below.drew h
theorem G.drewN {a b : World} (h : G a b) (n : Nat) : G a (b.drewN n) := below_drewN h n
theorem G.setCell {a b : World} (h : G a b) {p : Addr} (hp : a.heap.size ≤ p.block) (u : Value) : G a (b.setCell p u) := Below.setCell h hp u
theorem G.cell {a b : World} (h : G a b) {p : Addr} (hp : p.block < a.heap.size) : b.cell? p = a.cell? p := Below.cell h hp
theorem G.frozen {a b : World} (h : G a b) {p : Addr} (hp : p.block < a.heap.size) : b.frozen? p = a.frozen? p := Below.frozen h hp
theorem cell_lt {w : World} {p : Addr} {v : Value} (h : w.cell? p = some v) : p.block < w.heap.size := by
  unfold World.cell? at h
  by_cases c : p.block < w.heap.size
  · exact c
  · rw [Array.getElem?_eq_none (by omega)] at h; simp at h
theorem G.at {a b : World} (h : G a b) {p : Addr} {v : Value} (hp : a.cell? p = some v) : b.cell? p = some v := (h.cell (cell_lt hp)).trans hp
theorem ret_int {k : IntKind} {a b : Int} (h : a = b) : Ending.returned (.int k a) = .returned (.int k b) := by rw [h]
theorem grown_of_G {A C : World} (h : G A C) (row : Option Nat) : A.grownBy C row := ⟨h.os, h.tape, h.output, h.size, fun k hk _ => h.block k hk⟩
theorem own_later {W W' : World} {base : Nat} {e : TypeId} {size k : Nat} {v : Value} {xs : List Value} (h : W.ownsRow base e size v k xs) (g : G W W') : W'.ownsRow base e size v k xs := by
  refine h.kept (grown_of_G g none) ?_
  rcases h.2 with ⟨rfl, _⟩ | ⟨b, cap, cur, rfl, _, _, _⟩
  · exact .inl rfl
  · exact .inr (by simp [Value.ownBlock])
theorem own_base {W : World} {base base' : Nat} {e : TypeId} {size k : Nat} {v : Value} {xs : List Value} (h : W.ownsRow base e size v k xs) (hb : base' ≤ base) : W.ownsRow base' e size v k xs := by
  refine ⟨h.1, ?_⟩
  rcases h.2 with h | ⟨g, cap, cur, h1, h2, h3⟩
  · exact .inl h
  · exact .inr ⟨g, cap, cur, h1, Nat.le_trans hb h2, h3⟩

/-- blocks of cells in a later world -/
theorem tri_at {W w1 : World} {n : Nat} {a b c : Value} {t : TypeId} (hs : W.heap.size = n) (h : G (W.alloc (.cells #[a, b, c] t)) w1) :
    w1.cell? ⟨n, 0, none⟩ = some a ∧ w1.cell? ⟨n, 1, none⟩ = some b ∧ w1.cell? ⟨n, 2, none⟩ = some c := by
  subst hs
  refine ⟨?_, ?_, ?_⟩ <;> (rw [h.cell (by simp)]; go_cell)
theorem two_at {W w1 : World} {n : Nat} {a b : Value} {t : TypeId} (hs : W.heap.size = n) (h : G (W.alloc (.cells #[a, b] t)) w1) :
    w1.cell? ⟨n, 0, none⟩ = some a ∧ w1.cell? ⟨n, 1, none⟩ = some b := by
  subst hs
  refine ⟨?_, ?_⟩ <;> (rw [h.cell (by simp)]; go_cell)

theorem four_at {W w1 : World} {n : Nat} {a b c d : Value} {t : TypeId} (hs : W.heap.size = n) (h : G (W.alloc (.cells #[a, b, c, d] t)) w1) :
    w1.cell? ⟨n, 0, none⟩ = some a ∧ w1.cell? ⟨n, 1, none⟩ = some b ∧ w1.cell? ⟨n, 2, none⟩ = some c ∧ w1.cell? ⟨n, 3, none⟩ = some d := by
  subst hs
  refine ⟨?_, ?_, ?_, ?_⟩ <;> (rw [h.cell (by simp)]; go_cell)
theorem one_at {W w1 : World} {n : Nat} {a : Value} {t : TypeId} (hs : W.heap.size = n) (h : G (W.alloc (.cells #[a] t)) w1) : w1.cell? ⟨n, 0, none⟩ = some a := by
  subst hs
  rw [h.cell (by simp)]; go_cell
/-- four cells of a tuplet -/
def Tu4 (w : World) (b o : Nat) (t : Tu) : Prop :=
  w.cell? ⟨b, o, none⟩ = some (.int .i64 t.f) ∧ w.cell? ⟨b, o + 1, none⟩ = some (.int .i64 t.c) ∧ w.cell? ⟨b, o + 2, none⟩ = some (.int .i64 t.a) ∧ w.cell? ⟨b, o + 3, none⟩ = some (.int .i64 t.n)
theorem Tu4.later {w w' : World} {b o : Nat} {t : Tu} (h : Tu4 w b o t) (g : G w w') : Tu4 w' b o t :=
  ⟨g.at h.1, g.at h.2.1, g.at h.2.2.1, g.at h.2.2.2⟩
/-- the tuplets of a slice lie in a world -/
def TusAt (w : World) (a : Option Addr) (l : List Tu) : Prop :=
  l = [] ∨ ∃ b o, a = some ⟨b, o, none⟩ ∧ ∀ (i : Nat) (t : Tu), l[i]? = some t → Tu4 w b (o + i * 4) t
theorem TusAt.later {w w' : World} {a : Option Addr} {l : List Tu} (h : TusAt w a l) (g : G w w') : TusAt w' a l := by
  rcases h with h | ⟨b, o, h, k⟩
  · exact .inl h
  · exact .inr ⟨b, o, h, fun i x hx => (k i x hx).later g⟩
theorem take_at {α : Type} {l : List α} {k i : Nat} {x : α} (h : (l.take k)[i]? = some x) : l[i]? = some x := by
  rw [List.getElem?_take] at h
  split at h
  · exact h
  · cases h
theorem TusAt.take {w : World} {a : Option Addr} {l : List Tu} (h : TusAt w a l) (k : Nat) : TusAt w a (l.take k) := by
  rcases h with h | ⟨b, o, h, f⟩
  · exact .inl (by rw [h]; simp)
  · exact .inr ⟨b, o, h, fun i x hx => f i x (take_at hx)⟩
/-- the counts are of the machine -/
def CB (l : List Tu) : Prop := ∀ t, t ∈ l → t.c ≤ 9223372036854775807
theorem CB.take {l : List Tu} (h : CB l) (k : Nat) : CB (l.take k) := fun t ht => h t (List.mem_of_mem_take ht)

set_option maxHeartbeats 800000 in
theorem isRatio_any (n : Int) (w : World) : Calls Try.prog 53 #[.int .i64 n] w fun e w' => e = .returned (.bool (decide (Rt n))) ∧ w = w' := by
  by_cases h1 : 1 ≤ n
  · have e1 : decide (1 ≤ n) = true := decide_eq_true h1
    by_cases h2 : n ≤ 32
    · rw [show decide (Rt n) = true from decide_eq_true ⟨h1, h2⟩]
      go_enter Try.func53, Try.ntmps53
      go_wp2
      go_ret
      exact ⟨by first | rfl | simp [h2], rfl⟩
    · rw [show decide (Rt n) = false from decide_eq_false (fun c => h2 c.2)]
      go_enter Try.func53, Try.ntmps53
      go_wp2
      go_ret
      exact ⟨by first | rfl | simp [h2], rfl⟩
  · rw [show decide (Rt n) = false from decide_eq_false (fun c => h1 c.1)]
    go_enter Try.func53, Try.ntmps53
    go_wp2
    go_ret
    exact ⟨by first | rfl | simp [h1], rfl⟩

set_option maxHeartbeats 800000 in
theorem end_any (f c a n : Int) (w : World) (h0 : -9223372036854775808 ≤ f + c) (h1 : f + c ≤ 9223372036854775807) : Calls Try.prog 41 #[.agg #[.int .i64 f, .int .i64 c, .int .i64 a, .int .i64 n]] w fun e w' => e = .returned (.int .i64 (f + c)) ∧ G w w' := by
  have q1 := IntWalk.i64_in (f + c) (by omega)
  clear h0 h1
  go_enter Try.func41, Try.ntmps41
  go_wp2_with fail
  go_ret
  exact ⟨rfl, by (repeat' (first | (with_reducible exact G.refl _) | (with_reducible assumption) | (with_reducible refine G.drewN ?_ _) | (with_reducible refine G.drew ?_) | (with_reducible refine G.alloc ?_ _) | (with_reducible refine G.setCell ?_ (by first | (with_reducible exact Nat.le_refl _) | (simp; done) | (simp; omega) | omega) _) | (with_reducible refine G.trans ?_ (by assumption))))⟩

set_option maxHeartbeats 800000 in
theorem contains_any (f c a n e : Int) (w : World) (h0 : -9223372036854775808 ≤ f + c) (h1 : f + c ≤ 9223372036854775807) : Calls Try.prog 46 #[.agg #[.int .i64 f, .int .i64 c, .int .i64 a, .int .i64 n], .int .i64 e] w fun x w' => x = .returned (.bool (decide (InT ⟨f, c, a, n⟩ e))) ∧ G w w' := by
  have HB := Lib.hid (And.intro h0 h1)
  have HI := Lib.hid (show InT ⟨f, c, a, n⟩ e ↔ f ≤ e ∧ e < f + c from Iff.rfl)
  clear h0 h1
  obtain ⟨R, hR⟩ : ∃ z : Bool, Hid (z = decide (InT ⟨f, c, a, n⟩ e)) := ⟨_, rfl⟩
  rw [← hR.out]
  by_cases h : f ≤ e
  · have HR := Lib.hid (show R = decide (e < f + c) by rw [hR.out]; exact decide_eq_decide.2 (HI.out.trans ⟨fun k => k.2, fun k => ⟨h, k⟩⟩))
    go_enter Try.func46, Try.ntmps46
    go_wp2_with fail
    refine (end_any f c a n _ HB.out.1 HB.out.2).mono ?_
    rintro x w1 ⟨rfl, hG⟩
    go_wp2_with fail
    go_ret
    exact ⟨by rw [HR.out]; first | done | rfl, by (repeat' (first | (with_reducible exact G.refl _) | (with_reducible assumption) | (with_reducible refine G.drewN ?_ _) | (with_reducible refine G.drew ?_) | (with_reducible refine G.alloc ?_ _) | (with_reducible refine G.setCell ?_ (by first | (with_reducible exact Nat.le_refl _) | (simp; done) | (simp; omega) | omega) _) | (with_reducible refine G.trans ?_ (by assumption))))⟩
  · have HR := Lib.hid (show R = false by rw [hR.out]; exact decide_eq_false (fun k => h (HI.out.1 k).1))
    go_enter Try.func46, Try.ntmps46
    go_wp2_with fail
    go_ret
    exact ⟨by rw [HR.out]; first | done | rfl, by (repeat' (first | (with_reducible exact G.refl _) | (with_reducible assumption) | (with_reducible refine G.drewN ?_ _) | (with_reducible refine G.drew ?_) | (with_reducible refine G.alloc ?_ _) | (with_reducible refine G.setCell ?_ (by first | (with_reducible exact Nat.le_refl _) | (simp; done) | (simp; omega) | omega) _) | (with_reducible refine G.trans ?_ (by assumption))))⟩
end Go.Proofs.Ytabaiklagobimaa
