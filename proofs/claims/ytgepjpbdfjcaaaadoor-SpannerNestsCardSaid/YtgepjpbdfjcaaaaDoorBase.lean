import Derived.Test.YtgepjpbdfjcaaaaDoorSMath
import Derived.WalkKit
import Derived.WalkSpells
import Derived.WalkLawsBesides
import Derived.Handy
import Derived.Outline
import Derived.Lib.Hide
import Derived.Deep.QuietTactic
import Derived.BigQuiet
import Derived.Deep.RegionHeld3
import Derived.Deep.LoopGhost
import Derived.BigRegion
/-! Spanners: worlds and the smallest functions. -/
namespace Go.Proofs.YtgepjpbdfjcaaaaDoor
open Go.RowKit
attribute [local go_sem] World.cell?_alloc_some

/-- the world has at most new blocks -/
def G (w w' : World) : Prop := Below w.heap.size w w'
theorem G.refl (w : World) : G w w := Below.refl _ _
theorem G.trans {a b c : World} (h : G a b) (k : G b c) : G a c := Below.trans h (Below.mono k h.size)
theorem G.alloc {a b : World} (h : G a b) (o : Obj) : G a (b.alloc o) := Below.alloc h h.size o
theorem G.drew {a b : World} (h : G a b) : G a b.drew := Below.drew h
theorem G.drewN {a b : World} (h : G a b) (n : Nat) : G a (b.drewN n) := below_drewN h n
theorem G.setCell {a b : World} (h : G a b) {p : Addr} (hp : a.heap.size ≤ p.block) (u : Value) : G a (b.setCell p u) := Below.setCell h hp u
theorem G.cell {a b : World} (h : G a b) {p : Addr} (hp : p.block < a.heap.size) : b.cell? p = a.cell? p := Below.cell h hp
theorem G.frozen {a b : World} (h : G a b) {p : Addr} (hp : p.block < a.heap.size) : b.frozen? p = a.frozen? p := Below.frozen h hp
theorem cell_lt {w : World} {p : Addr} {v : Value} (h : w.cell? p = some v) : p.block < w.heap.size := by
  unfold World.cell? at h
  by_cases c : p.block < w.heap.size
  · exact c
  · rw [Array.getElem?_eq_none (by omega)] at h; simp at h
theorem G.at {a b : World} (h : G a b) {p : Addr} {v : Value} (hp : a.cell? p = some v) : b.cell? p = some v := (h.cell (cell_lt hp)).trans hp
theorem ret_int {k : IntKind} {a b : Int} (h : a = b) : Ending.returned (.int k a) = .returned (.int k b) := by rw [h]
theorem grown_of_G {A C : World} (h : G A C) (row : Option Nat) : A.grownBy C row := ⟨h.os, h.tape, h.output, h.size, fun k hk _ => h.block k hk⟩
theorem own_later {W W' : World} {base : Nat} {e : TypeId} {size k : Nat} {v : Value} {xs : List Value} (h : W.ownsRow base e size v k xs) (g : G W W') : W'.ownsRow base e size v k xs := by
  refine h.kept (grown_of_G g none) ?_
  rcases h.2 with ⟨rfl, _⟩ | ⟨b, cap, cur, rfl, _, _, _⟩
  · exact .inl rfl
  · exact .inr (by simp [Value.ownBlock])
theorem own_base {W : World} {base base' : Nat} {e : TypeId} {size k : Nat} {v : Value} {xs : List Value} (h : W.ownsRow base e size v k xs) (hb : base' ≤ base) : W.ownsRow base' e size v k xs := by
  refine ⟨h.1, ?_⟩
  rcases h.2 with h | ⟨g, cap, cur, h1, h2, h3⟩
  · exact .inl h
  · exact .inr ⟨g, cap, cur, h1, Nat.le_trans hb h2, h3⟩

/-- blocks of cells in a later world -/
theorem tri_at {W w1 : World} {n : Nat} {a b c : Value} {t : TypeId} (hs : W.heap.size = n) (h : G (W.alloc (.cells #[a, b, c] t)) w1) :
    w1.cell? ⟨n, 0, none⟩ = some a ∧ w1.cell? ⟨n, 1, none⟩ = some b ∧ w1.cell? ⟨n, 2, none⟩ = some c := by
  subst hs
  refine ⟨?_, ?_, ?_⟩ <;> (rw [h.cell (by simp)]; go_cell)
theorem two_at {W w1 : World} {n : Nat} {a b : Value} {t : TypeId} (hs : W.heap.size = n) (h : G (W.alloc (.cells #[a, b] t)) w1) :
    w1.cell? ⟨n, 0, none⟩ = some a ∧ w1.cell? ⟨n, 1, none⟩ = some b := by
  subst hs
  refine ⟨?_, ?_⟩ <;> (rw [h.cell (by simp)]; go_cell)

theorem four_at {W w1 : World} {n : Nat} {a b c d : Value} {t : TypeId} (hs : W.heap.size = n) (h : G (W.alloc (.cells #[a, b, c, d] t)) w1) :
    w1.cell? ⟨n, 0, none⟩ = some a ∧ w1.cell? ⟨n, 1, none⟩ = some b ∧ w1.cell? ⟨n, 2, none⟩ = some c ∧ w1.cell? ⟨n, 3, none⟩ = some d := by
  subst hs
  refine ⟨?_, ?_, ?_, ?_⟩ <;> (rw [h.cell (by simp)]; go_cell)
theorem one_at {W w1 : World} {n : Nat} {a : Value} {t : TypeId} (hs : W.heap.size = n) (h : G (W.alloc (.cells #[a] t)) w1) : w1.cell? ⟨n, 0, none⟩ = some a := by
  subst hs
  rw [h.cell (by simp)]; go_cell
theorem take_at {α : Type} {l : List α} {k i : Nat} {x : α} (h : (l.take k)[i]? = some x) : l[i]? = some x := by
  rw [List.getElem?_take] at h
  split at h
  · exact h
  · cases h

theorem upTo_any (lim n : Int) (w : World) : Calls Tryd.prog 58 #[.int .i64 lim, .int .i64 n] w fun e w' => e = .returned (.bool (decide (0 ≤ n ∧ n ≤ lim))) ∧ w = w' := by
  obtain ⟨R, hR⟩ : ∃ z : Bool, Hid (z = decide (0 ≤ n ∧ n ≤ lim)) := ⟨_, rfl⟩
  rw [← hR.out]
  by_cases h1 : 0 ≤ n
  · have HR := Lib.hid (show R = decide (n ≤ lim) by rw [hR.out]; exact decide_eq_decide.2 ⟨fun h => h.2, fun h => ⟨h1, h⟩⟩)
    go_enter Tryd.func58, Tryd.ntmps58
    go_wp2_with fail
    go_ret
    exact ⟨by rw [HR.out]; first | done | rfl, rfl⟩
  · have HR := Lib.hid (show R = false by rw [hR.out]; exact decide_eq_false (fun h => h1 h.1))
    go_enter Tryd.func58, Tryd.ntmps58
    go_wp2_with fail
    go_ret
    exact ⟨by rw [HR.out]; first | done | rfl, rfl⟩
theorem isKind_any (n : Int) (w : World) : Calls Tryd.prog 38 #[.int .i64 n] w fun e w' => e = .returned (.bool (decide (Kd n))) ∧ w = w' := by
  obtain ⟨R, hR⟩ : ∃ z : Bool, Hid (z = decide (Kd n)) := ⟨_, rfl⟩
  rw [← hR.out]
  by_cases h1 : 1 ≤ n
  · have HR := Lib.hid (show R = decide (n ≤ 7) by rw [hR.out]; exact decide_eq_decide.2 ⟨fun h => h.2, fun h => ⟨h1, h⟩⟩)
    go_enter Tryd.func38, Tryd.ntmps38
    go_wp2_with fail
    go_ret
    exact ⟨by rw [HR.out]; first | done | rfl, rfl⟩
  · have HR := Lib.hid (show R = false by rw [hR.out]; exact decide_eq_false (fun h => h1 h.1))
    go_enter Tryd.func38, Tryd.ntmps38
    go_wp2_with fail
    go_ret
    exact ⟨by rw [HR.out]; first | done | rfl, rfl⟩
theorem ofVoice_any (n : Int) (w : World) : Calls Tryd.prog 40 #[.int .i64 n] w fun e w' => e = .returned (.bool (decide (OfV n))) ∧ w = w' := by
  obtain ⟨R, hR⟩ : ∃ z : Bool, Hid (z = decide (OfV n)) := ⟨_, rfl⟩
  rw [← hR.out]
  by_cases h1 : n = 1
  · have HR := Lib.hid (show R = true by rw [hR.out]; exact decide_eq_true (.inl h1))
    subst h1
    go_enter Tryd.func40, Tryd.ntmps40
    go_wp2_with fail
    go_ret
    exact ⟨by rw [HR.out]; first | done | rfl, rfl⟩
  · have h2 : (n == 1) = false := beq_false_of_ne h1
    have HR := Lib.hid (show R = (n == 7) by rw [hR.out, show decide (OfV n) = decide (n = 7) from decide_eq_decide.2 ⟨fun h => h.resolve_left h1, .inr⟩]; first | rfl | simp)
    clear h1
    go_enter Tryd.func40, Tryd.ntmps40
    go_wp2_with fail
    go_ret
    exact ⟨by rw [HR.out]; first | done | rfl, rfl⟩
set_option maxHeartbeats 3200000 in
theorem inRange_any (p : Pl) (w : World) : Calls Tryd.prog 39 #[.agg #[.int .i64 p.m, .int .i64 p.a, .int .i64 p.s, .int .i64 p.v]] w fun e w' => e = .returned (.bool (decide (InP p))) ∧ G w w' := by
  obtain ⟨R, hR⟩ : ∃ z : Bool, Hid (z = decide (InP p)) := ⟨_, rfl⟩
  rw [← hR.out]
  have HI := Lib.hid (show InP p ↔ (0 ≤ p.m ∧ p.m ≤ 1023) ∧ (0 ≤ p.a ∧ p.a ≤ 4398046511104) ∧ (0 ≤ p.s ∧ p.s ≤ 127) ∧ (0 ≤ p.v ∧ p.v ≤ 1) by unfold InP; constructor <;> (intro h; omega))
  go_enter Tryd.func39, Tryd.ntmps39
  go_wp2_with fail
  refine (upTo_any _ _ _).mono ?_
  rintro e w1 ⟨rfl, rfl⟩
  by_cases k1 : 0 ≤ p.m ∧ p.m ≤ 1023
  rotate_left
  · have HR := Lib.hid (show R = false by rw [hR.out]; exact decide_eq_false (fun h => k1 (HI.out.1 h).1))
    rw [decide_eq_false k1]
    clear k1
    go_wp2_with fail
    go_ret
    exact ⟨by rw [HR.out]; first | done | rfl, by (repeat' (first | (with_reducible exact G.refl _) | (with_reducible assumption) | (with_reducible refine G.drewN ?_ _) | (with_reducible refine G.drew ?_) | (with_reducible refine G.alloc ?_ _) | (with_reducible refine G.setCell ?_ (by first | (with_reducible exact Nat.le_refl _) | (simp; done) | (simp; omega) | omega) _) | (with_reducible refine G.trans ?_ (by assumption))))⟩
  rw [decide_eq_true k1]
  have K1 := Lib.hid k1
  clear k1
  go_wp2_with fail
  refine (upTo_any _ _ _).mono ?_
  rintro e w1 ⟨rfl, rfl⟩
  by_cases k2 : 0 ≤ p.a ∧ p.a ≤ 4398046511104
  rotate_left
  · have HR := Lib.hid (show R = false by rw [hR.out]; exact decide_eq_false (fun h => k2 (HI.out.1 h).2.1))
    rw [decide_eq_false k2]
    clear k2
    go_wp2_with fail
    go_ret
    exact ⟨by rw [HR.out]; first | done | rfl, by (repeat' (first | (with_reducible exact G.refl _) | (with_reducible assumption) | (with_reducible refine G.drewN ?_ _) | (with_reducible refine G.drew ?_) | (with_reducible refine G.alloc ?_ _) | (with_reducible refine G.setCell ?_ (by first | (with_reducible exact Nat.le_refl _) | (simp; done) | (simp; omega) | omega) _) | (with_reducible refine G.trans ?_ (by assumption))))⟩
  rw [decide_eq_true k2]
  have K2 := Lib.hid k2
  clear k2
  go_wp2_with fail
  refine (upTo_any _ _ _).mono ?_
  rintro e w1 ⟨rfl, rfl⟩
  by_cases k3 : 0 ≤ p.s ∧ p.s ≤ 127
  rotate_left
  · have HR := Lib.hid (show R = false by rw [hR.out]; exact decide_eq_false (fun h => k3 (HI.out.1 h).2.2.1))
    rw [decide_eq_false k3]
    clear k3
    go_wp2_with fail
    go_ret
    exact ⟨by rw [HR.out]; first | done | rfl, by (repeat' (first | (with_reducible exact G.refl _) | (with_reducible assumption) | (with_reducible refine G.drewN ?_ _) | (with_reducible refine G.drew ?_) | (with_reducible refine G.alloc ?_ _) | (with_reducible refine G.setCell ?_ (by first | (with_reducible exact Nat.le_refl _) | (simp; done) | (simp; omega) | omega) _) | (with_reducible refine G.trans ?_ (by assumption))))⟩
  rw [decide_eq_true k3]
  have K3 := Lib.hid k3
  clear k3
  have HR := Lib.hid (show R = decide (0 ≤ p.v ∧ p.v ≤ 1) by rw [hR.out]; exact decide_eq_decide.2 (HI.out.trans ⟨fun h => h.2.2.2, fun h => ⟨K1.out, K2.out, K3.out, h⟩⟩))
  go_wp2_with fail
  refine (upTo_any _ _ _).mono ?_
  rintro e w1 ⟨rfl, rfl⟩
  rw [← HR.out]
  go_wp2_with fail
  go_ret
  exact ⟨rfl, by (repeat' (first | (with_reducible exact G.refl _) | (with_reducible assumption) | (with_reducible refine G.drewN ?_ _) | (with_reducible refine G.drew ?_) | (with_reducible refine G.alloc ?_ _) | (with_reducible refine G.setCell ?_ (by first | (with_reducible exact Nat.le_refl _) | (simp; done) | (simp; omega) | omega) _) | (with_reducible refine G.trans ?_ (by assumption))))⟩
theorem isNaN_any (x : Int) (w : World) : Calls Tryd.prog 59 #[.int .i64 x] w fun e w' => e = .returned (.bool false) ∧ w = w' := by
  go_enter Tryd.func59, Tryd.ntmps59
  go_wp2_with fail
  go_ret
  exact ⟨by first | rfl | simp, rfl⟩
set_option maxHeartbeats 800000 in
theorem cmpCompare_any (x y : Int) (w : World) : Calls Tryd.prog 43 #[.int .i64 x, .int .i64 y] w fun e w' => e = .returned (.int .i64 (cmi x y)) ∧ w = w' := by
  obtain ⟨R, hR⟩ : ∃ z : Int, Hid (z = cmi x y) := ⟨_, rfl⟩
  rw [← hR.out]
  by_cases h : x < y
  · have HR := Lib.hid (show R = -1 by rw [hR.out]; exact if_pos h)
    go_enter Tryd.func43, Tryd.ntmps43
    go_wp2_with fail
    refine (isNaN_any _ _).mono ?_
    rintro e w1 ⟨rfl, rfl⟩
    go_wp2_with fail
    refine (isNaN_any _ _).mono ?_
    rintro e w1 ⟨rfl, rfl⟩
    go_wp2_with fail
    go_ret
    exact ⟨ret_int HR.out.symm, rfl⟩
  by_cases h2 : y < x
  · have HR := Lib.hid (show R = 1 by rw [hR.out]; exact (if_neg h).trans (if_pos h2))
    go_enter Tryd.func43, Tryd.ntmps43
    go_wp2_with fail
    refine (isNaN_any _ _).mono ?_
    rintro e w1 ⟨rfl, rfl⟩
    go_wp2_with fail
    refine (isNaN_any _ _).mono ?_
    rintro e w1 ⟨rfl, rfl⟩
    go_wp2_with fail
    go_ret
    exact ⟨ret_int HR.out.symm, rfl⟩
  · have HR := Lib.hid (show R = 0 by rw [hR.out]; exact (if_neg h).trans (if_neg h2))
    go_enter Tryd.func43, Tryd.ntmps43
    go_wp2_with fail
    refine (isNaN_any _ _).mono ?_
    rintro e w1 ⟨rfl, rfl⟩
    go_wp2_with fail
    refine (isNaN_any _ _).mono ?_
    rintro e w1 ⟨rfl, rfl⟩
    go_wp2_with fail
    go_ret
    exact ⟨ret_int HR.out.symm, rfl⟩
theorem Or_any (x y : Int) (g : Nat) (w : World) (h0 : w.cell? ⟨g, 0, none⟩ = some (.int .i64 x)) (h1 : w.cell? ⟨g, 1, none⟩ = some (.int .i64 y)) :
    Calls Tryd.prog 42 #[.slice (some ⟨g, 0, none⟩) 2 2] w fun e w' => e = .returned (.int .i64 (if x ≠ 0 then x else y)) ∧ w = w' := by
  obtain ⟨R, hR⟩ : ∃ R, Hid (R = if x ≠ 0 then x else y) := ⟨_, rfl⟩
  rw [← hR.out]
  go_enter Tryd.func42, Tryd.ntmps42
  go_wp2_with fail
  go_loopg [8] 2 (fun n k wr => wr = w ∧ ((k = .int .i64 0 ∧ n = 2) ∨ (k = .int .i64 1 ∧ n = 1 ∧ x = 0) ∨ (k = .int .i64 2 ∧ n = 0 ∧ x = 0 ∧ y = 0)))
  case atStart => exact ⟨rfl, .inl ⟨rfl, rfl⟩⟩
  case round =>
    obtain ⟨rfl, ⟨rfl, rfl⟩ | ⟨rfl, rfl, rfl⟩ | ⟨rfl, rfl, rfl, rfl⟩⟩ := hrel
    · by_cases c : x = 0
      · subst c
        go_wp2_with fail
        go_roundg 1
        case measure => omega
        case rel => exact ⟨rfl, .inr (.inl ⟨rfl, rfl, by first | rfl | trivial⟩)⟩
      · have c' : (x == 0) = false := beq_false_of_ne c
        have HR := Lib.hid (show R = x by rw [hR.out, if_pos c])
        go_wp2_with fail
        go_ret
        exact ⟨ret_int HR.out.symm, rfl⟩
    · by_cases c : y = 0
      · subst c
        go_wp2_with fail
        go_roundg 0
        case measure => omega
        case rel => exact ⟨rfl, .inr (.inr ⟨rfl, rfl, by first | rfl | trivial, by first | rfl | trivial⟩)⟩
      · have c' : (y == 0) = false := beq_false_of_ne c
        have HR := Lib.hid (show R = y by rw [hR.out, if_neg (by simp)])
        go_wp2_with fail
        go_ret
        exact ⟨ret_int HR.out.symm, rfl⟩
    · have HR := Lib.hid (show R = 0 by rw [hR.out, if_neg (by simp)])
      go_wp2_with fail
      go_ret
      exact ⟨ret_int HR.out.symm, rfl⟩


theorem eight_later {w w1 : World} {a b c d e f g h : Value} {t t' : TypeId} (k : G ((w.alloc (.cells #[a, b, c, d] t)).alloc (.cells #[e, f, g, h] t')) w1) :
    w1.cell? ⟨w.heap.size, 0, none⟩ = some a ∧ w1.cell? ⟨w.heap.size, 1, none⟩ = some b ∧ w1.cell? ⟨w.heap.size + 1, 0, none⟩ = some e ∧ w1.cell? ⟨w.heap.size + 1, 1, none⟩ = some f := by
  refine ⟨?_, ?_, ?_, ?_⟩
  · rw [k.cell (by simp; omega)]; go_cell
  · rw [k.cell (by simp; omega)]; go_cell
  · rw [k.cell (by simp)]; go_cell
  · rw [k.cell (by simp)]; go_cell
set_option maxRecDepth 20000 in
set_option maxHeartbeats 3200000 in
theorem sCompare_any (p q : Pl) (w : World) :
    Calls Tryd.prog 17 #[.agg #[.int .i64 p.m, .int .i64 p.a, .int .i64 p.s, .int .i64 p.v], .agg #[.int .i64 q.m, .int .i64 q.a, .int .i64 q.s, .int .i64 q.v]] w fun e w' => e = .returned (.int .i64 (cmP p q)) ∧ G w w' := by
  obtain ⟨R, hR⟩ : ∃ z : Int, Hid (z = cmP p q) := ⟨_, rfl⟩
  rw [← hR.out]
  obtain ⟨u, hu⟩ : ∃ z : Int, Hid (z = cmi p.m q.m) := ⟨_, rfl⟩
  obtain ⟨v, hv⟩ : ∃ z : Int, Hid (z = cmi p.a q.a) := ⟨_, rfl⟩
  have HR := Lib.hid (show (if u ≠ 0 then u else v) = R by rw [hR.out, hu.out, hv.out]; rfl)
  have gb : G ((w.alloc (.cells #[.int .i64 p.m, .int .i64 p.a, .int .i64 p.s, .int .i64 p.v] 29)).alloc (.cells #[.int .i64 q.m, .int .i64 q.a, .int .i64 q.s, .int .i64 q.v] 29)) ((w.alloc (.cells #[.int .i64 p.m, .int .i64 p.a, .int .i64 p.s, .int .i64 p.v] 29)).alloc (.cells #[.int .i64 q.m, .int .i64 q.a, .int .i64 q.s, .int .i64 q.v] 29)) := G.refl _
  obtain ⟨d0, d1, d2, d3⟩ := eight_later gb
  clear gb hR
  go_enter Tryd.func17, Tryd.ntmps17
  go_wp2_with fail
  go_region_held3 (fun w' => w'.cell? ⟨w.heap.size, 0, none⟩ = some (.int .i64 p.m) ∧ w'.cell? ⟨w.heap.size, 1, none⟩ = some (.int .i64 p.a) ∧ w'.cell? ⟨w.heap.size + 1, 0, none⟩ = some (.int .i64 q.m) ∧ w'.cell? ⟨w.heap.size + 1, 1, none⟩ = some (.int .i64 q.a))
    (first | (with_reducible assumption) | ((try dsimp only); (repeat' (with_reducible apply And.intro)) <;> go_simp))
    (first | (go_at_call 43; refine (cmpCompare_any _ _ _).mono ?_; rintro e w9 ⟨rfl, rfl⟩; (first | rw [← hu.out] | rw [← hv.out])) | (go_at_call 42; refine (Or_any u v _ _ (by go_cell) (by go_cell)).mono ?_; rintro e w9 ⟨rfl, rfl⟩; rw [HR.out]))
  all_goals
    go_wp2_with fail
    go_ret
    exact ⟨rfl, by (repeat' (first | (with_reducible exact G.refl _) | (with_reducible assumption) | (with_reducible refine G.drewN ?_ _) | (with_reducible refine G.drew ?_) | (with_reducible refine G.alloc ?_ _) | (with_reducible refine G.setCell ?_ (by first | (with_reducible exact Nat.le_refl _) | (simp; done) | (simp; omega) | omega) _) | (with_reducible refine G.trans ?_ (by assumption))))⟩
end Go.Proofs.YtgepjpbdfjcaaaaDoor
