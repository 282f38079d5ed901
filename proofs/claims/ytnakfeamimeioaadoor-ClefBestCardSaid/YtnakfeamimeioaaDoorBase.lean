import Derived.Test.YtnakfeamimeioaaDoorRows
import Derived.WalkKit
import Derived.WalkSpells
import Derived.WalkLawsBesides
import Derived.Handy
import Derived.Outline
import Derived.Lib.Hide
import Derived.Deep.QuietTactic
import Derived.BigQuiet
import Derived.Deep.RegionHeld3
/-! Pitches: what the number of a pitch is, which pitches there are; the walks of the smallest functions of the program. -/
namespace Go.Proofs.YtnakfeamimeioaaDoor
open Go.RowKit
attribute [local go_sem] World.cell?_alloc_some

/-- the world has at most new blocks -/
def G (w w' : World) : Prop := Below w.heap.size w w'
theorem G.refl (w : World) : G w w := Below.refl _ _
theorem G.trans {a b c : World} (h : G a b) (k : G b c) : G a c := Below.trans h (Below.mono k h.size)
theorem G.alloc {a b : World} (h : G a b) (o : Obj) : G a (b.alloc o) := Below.alloc h h.size o
theorem G.drew {a b : World} (h : G a b) : G a b.drew := Below.drew h
theorem G.drewN {a b : World} (h : G a b) (n : Nat) : G a (b.drewN n) := below_drewN h n
theorem G.setCell {a b : World} (h : G a b) {p : Addr} (hp : a.heap.size ≤ p.block) (u : Value) : G a (b.setCell p u) := Below.setCell h hp u
theorem G.cell {a b : World} (h : G a b) {p : Addr} (hp : p.block < a.heap.size) : b.cell? p = a.cell? p := Below.cell h hp
theorem G.frozen {a b : World} (h : G a b) {p : Addr} (hp : p.block < a.heap.size) : b.frozen? p = a.frozen? p := Below.frozen h hp
theorem cell_lt {w : World} {p : Addr} {v : Value} (h : w.cell? p = some v) : p.block < w.heap.size := by
  unfold World.cell? at h
  by_cases c : p.block < w.heap.size
  · exact c
  · rw [Array.getElem?_eq_none (by omega)] at h; simp at h
theorem G.at {a b : World} (h : G a b) {p : Addr} {v : Value} (hp : a.cell? p = some v) : b.cell? p = some v := (h.cell (cell_lt hp)).trans hp
theorem ret_int {k : IntKind} {a b : Int} (h : a = b) : Ending.returned (.int k a) = .returned (.int k b) := by rw [h]

/-- the number of a step in semitones above C, and its place on the line of fifths -/
def H (s : Int) : Int := if s = 0 then 0 else if s = 1 then 2 else if s = 2 then 4 else if s = 3 then 5 else if s = 4 then 7 else if s = 5 then 9 else 11
def Q (s : Int) : Int := if s = 0 then 0 else if s = 1 then 2 else if s = 2 then 4 else if s = 3 then -1 else if s = 4 then 1 else if s = 5 then 3 else 5
/-- the number of a pitch -/
def ht (s a o : Int) : Int := 12 * (o + 1) + H s + a
def Inr (s a o : Int) : Prop := (0 ≤ s ∧ s ≤ 6) ∧ (-2 ≤ a ∧ a ≤ 2) ∧ -1 ≤ o ∧ o ≤ 9
def Ok (s a o : Int) : Prop := Inr s a o ∧ 0 ≤ ht s a o ∧ ht s a o ≤ 127
instance (s a o : Int) : Decidable (Inr s a o) := by unfold Inr; infer_instance
instance (s a o : Int) : Decidable (Ok s a o) := by unfold Ok; infer_instance
theorem H_bd (s : Int) : 0 ≤ H s ∧ H s ≤ 11 := by unfold H; repeat' split
                                                  all_goals omega
theorem Q_bd (s : Int) : -1 ≤ Q s ∧ Q s ≤ 5 := by unfold Q; repeat' split
                                                  all_goals omega
theorem ht_bd {s a o : Int} (h : Inr s a o) : -2 ≤ ht s a o ∧ ht s a o ≤ 133 := by
  have := H_bd s
  obtain ⟨⟨_, _⟩, ⟨_, _⟩, _, _⟩ := h
  unfold ht; omega

/-- the program's table of the steps' numbers, that of the places, and that of the signs -/
def Hts (w : World) : Prop := w.cell? ⟨2, 0, none⟩ = some (.int .i64 0) ∧ w.cell? ⟨2, 1, none⟩ = some (.int .i64 2) ∧ w.cell? ⟨2, 2, none⟩ = some (.int .i64 4) ∧ w.cell? ⟨2, 3, none⟩ = some (.int .i64 5) ∧ w.cell? ⟨2, 4, none⟩ = some (.int .i64 7) ∧ w.cell? ⟨2, 5, none⟩ = some (.int .i64 9) ∧ w.cell? ⟨2, 6, none⟩ = some (.int .i64 11)
theorem Hts.later {a b : World} (h : Hts a) (g : G a b) : Hts b := by
  obtain ⟨x0, x1, x2, x3, x4, x5, x6⟩ := h
  exact ⟨g.at x0, g.at x1, g.at x2, g.at x3, g.at x4, g.at x5, g.at x6⟩
/-- a block of three cells, in a later world -/
theorem tri_later {w w1 : World} {a b c : Value} {t : TypeId} (h : G (w.alloc (.cells #[a, b, c] t)) w1) :
    w1.cell? ⟨w.heap.size, 0, none⟩ = some a ∧ w1.cell? ⟨w.heap.size, 1, none⟩ = some b ∧ w1.cell? ⟨w.heap.size, 2, none⟩ = some c := by
  refine ⟨?_, ?_, ?_⟩ <;> (rw [h.cell (by simp)]; go_cell)
/-- two blocks of three cells, made one after the other, in a later world, with the marks of the second -/
theorem tri2_later {w w1 : World} {a b c x y z : Value} {t t' : TypeId} (h : G ((w.alloc (.cells #[a, b, c] t)).alloc (.cells #[x, y, z] t')) w1) :
    (w1.cell? ⟨w.heap.size, 0, none⟩ = some a ∧ w1.cell? ⟨w.heap.size, 1, none⟩ = some b ∧ w1.cell? ⟨w.heap.size, 2, none⟩ = some c) ∧
    (w1.cell? ⟨w.heap.size + 1, 0, none⟩ = some x ∧ w1.cell? ⟨w.heap.size + 1, 1, none⟩ = some y ∧ w1.cell? ⟨w.heap.size + 1, 2, none⟩ = some z) ∧
    w1.frozen? ⟨w.heap.size + 1, 0, none⟩ = false ∧ w1.frozen? ⟨w.heap.size + 1, 1, none⟩ = false ∧ w1.frozen? ⟨w.heap.size + 1, 2, none⟩ = false := by
  refine ⟨⟨?_, ?_, ?_⟩, ⟨?_, ?_, ?_⟩, ?_, ?_, ?_⟩
  · rw [h.cell (by simp; omega)]; go_cell
  · rw [h.cell (by simp; omega)]; go_cell
  · rw [h.cell (by simp; omega)]; go_cell
  · rw [h.cell (by simp)]; go_cell
  · rw [h.cell (by simp)]; go_cell
  · rw [h.cell (by simp)]; go_cell
  · rw [h.frozen (by simp)]; simp [go_sem]
  · rw [h.frozen (by simp)]; simp [go_sem]
  · rw [h.frozen (by simp)]; simp [go_sem]
/-- one block of three cells with its marks -/
theorem trif_later {w w1 : World} {x y z : Value} {t' : TypeId} (h : G (w.alloc (.cells #[x, y, z] t')) w1) :
    (w1.cell? ⟨w.heap.size, 0, none⟩ = some x ∧ w1.cell? ⟨w.heap.size, 1, none⟩ = some y ∧ w1.cell? ⟨w.heap.size, 2, none⟩ = some z) ∧
    w1.frozen? ⟨w.heap.size, 0, none⟩ = false ∧ w1.frozen? ⟨w.heap.size, 1, none⟩ = false ∧ w1.frozen? ⟨w.heap.size, 2, none⟩ = false := by
  refine ⟨⟨?_, ?_, ?_⟩, ?_, ?_, ?_⟩
  · rw [h.cell (by simp)]; go_cell
  · rw [h.cell (by simp)]; go_cell
  · rw [h.cell (by simp)]; go_cell
  · rw [h.frozen (by simp)]; simp [go_sem]
  · rw [h.frozen (by simp)]; simp [go_sem]
  · rw [h.frozen (by simp)]; simp [go_sem]

theorem steps7 {s : Int} (h0 : 0 ≤ s) (h1 : s ≤ 6) : s = 0 ∨ s = 1 ∨ s = 2 ∨ s = 3 ∨ s = 4 ∨ s = 5 ∨ s = 6 := by omega

set_option maxHeartbeats 1600000 in
theorem height_any (s a o : Int) (w : World) (h : Inr s a o) (hT : Hts w) :
    Calls Tryd.prog 45 #[.agg #[.int .i64 s, .int .i64 a, .int .i64 o]] w fun e w' => e = .returned (.int .i64 (ht s a o)) ∧ G w w' := by
  obtain ⟨⟨h0, h1⟩, ⟨h2, h3⟩, h4, h5⟩ := h
  obtain ⟨x0, x1, x2, x3, x4, x5, x6⟩ := hT
  rcases steps7 h0 h1 with rfl | rfl | rfl | rfl | rfl | rfl | rfl
  all_goals
    go_enter Tryd.func45, Tryd.ntmps45
    go_wp2
    go_quiet (fail)
    go_wp2
    go_ret
    exact ⟨ret_int (by unfold ht H; simp), by (repeat' (first | (with_reducible exact G.refl _) | (with_reducible assumption) | (with_reducible refine G.drewN ?_ _) | (with_reducible refine G.drew ?_) | (with_reducible refine G.alloc ?_ _) | (with_reducible refine G.setCell ?_ (by first | (with_reducible exact Nat.le_refl _) | (simp; done) | (simp; omega) | omega) _) | (with_reducible refine G.trans ?_ (by assumption))))⟩

set_option maxHeartbeats 400000 in
theorem isNumber_any (n : Int) (w : World) :
    Calls Tryd.prog 44 #[.int .i64 n] w fun e w' => e = .returned (.bool (decide (0 ≤ n ∧ n ≤ 127))) ∧ w = w' := by
  by_cases c : n < 0
  · have e : decide (0 ≤ n ∧ n ≤ 127) = false := decide_eq_false (by omega)
    rw [e]; clear e
    go_enter Tryd.func44, Tryd.ntmps44
    go_wp2
    go_ret
    exact ⟨rfl, rfl⟩
  by_cases d : n ≤ 127
  · have e : decide (0 ≤ n ∧ n ≤ 127) = true := decide_eq_true (by omega)
    rw [e]; clear e
    go_enter Tryd.func44, Tryd.ntmps44
    go_wp2
    go_ret
    exact ⟨rfl, rfl⟩
  · have e : decide (0 ≤ n ∧ n ≤ 127) = false := decide_eq_false (by omega)
    rw [e]; clear e
    go_enter Tryd.func44, Tryd.ntmps44
    go_wp2
    go_ret
    exact ⟨rfl, rfl⟩
end Go.Proofs.YtnakfeamimeioaaDoor
