import Derived.Test.YtghlecocnflbnaaDoorKnown
import Derived.Test.YtghlecocnflbnaaDoorLaid
import Derived.Test.YtghlecocnflbnaaDoorA6
import Derived.Test.YtghlecocnflbnaaDoorA7
import Derived.Test.YtghlecocnflbnaaDoorP1
/-! Accidentals: rows of notes and places that are made. -/
namespace Go.Proofs.YtghlecocnflbnaaDoor
open Go.RowKit
attribute [local go_sem] World.cell?_alloc_some

/-- rows of equal elements; the first cell of the first i of them is written -/
def MR (w : World) (g N sz : Nat) (z : Nat → Value) (A : Int) (i : Nat) : Prop :=
  ∀ k j, k < N → j < sz → w.cell? ⟨g, k * sz + j, none⟩ = some (if j = 0 ∧ k < i then .int .i64 A else z j) ∧ w.frozen? ⟨g, k * sz + j, none⟩ = false
theorem MR.later {w w' : World} {g N sz : Nat} {z : Nat → Value} {A : Int} {i : Nat} (h : MR w g N sz z A i) (k : G w w') : MR w' g N sz z A i := fun a b ha hb =>
  ⟨k.at (h a b ha hb).1, (k.frozen (cell_lt (h a b ha hb).1)).trans (h a b ha hb).2⟩
theorem MR.new (w : World) (zc : Array Value) (N sz : Nat) (t : TypeId) (hs : zc.size = sz) (z : Nat → Value) (hz : ∀ j, j < sz → zc[j]! = z j) (A : Int) :
    MR (w.alloc (.cells (madeCells zc (N * sz)) t)) w.heap.size N sz z A 0 := fun k j hk hj => by
  have hlt : k * sz + j < N * sz := Nat.lt_of_lt_of_le (show k * sz + j < (k + 1) * sz by rw [Nat.add_mul, Nat.one_mul]; omega) (Nat.mul_le_mul_right _ hk)
  have hm : (k * sz + j) % sz = j := by rw [Nat.mul_comm, Nat.mul_add_mod, Nat.mod_eq_of_lt hj]
  have h : (madeCells zc (N * sz))[k * sz + j]? = some (z j) := by
    unfold madeCells
    rw [Array.getElem?_map, Array.getElem?_range, if_pos hlt, hs]
    simp only [Option.map_some, hm, hz j hj]
  refine ⟨?_, by simp [go_sem]⟩
  rw [if_neg (by omega), World.cell?_alloc_new]
  exact h
theorem MR.far {w : World} {g N sz : Nat} {z : Nat → Value} {A : Int} {i : Nat} (h : MR w g N sz z A i) {b : Nat} (hb : b ≠ g) (o : Nat) (u : Value) : MR (w.setCell ⟨b, o, none⟩ u) g N sz z A i := fun k j hk hj => by
  refine ⟨?_, by simp [go_sem]; exact (h k j hk hj).2⟩
  rw [World.cell?_setCell_far _ _ _ _ hb]
  exact (h k j hk hj).1
theorem MR.set {w : World} {g N sz : Nat} {z : Nat → Value} {A : Int} {i : Nat} (h : MR w g N sz z A i) (hi : i < N) (h0 : 0 < sz) : MR (w.setCell ⟨g, i * sz, none⟩ (.int .i64 A)) g N sz z A (i + 1) := fun k j hk hj => by
  refine ⟨?_, by simp [go_sem]; exact (h k j hk hj).2⟩
  by_cases e : k = i ∧ j = 0
  · obtain ⟨rfl, rfl⟩ := e
    have := (h k 0 hk hj).1
    rw [Nat.add_zero] at this ⊢
    rw [World.cell?_setCell_same _ _ _ this, if_pos ⟨rfl, by omega⟩]
  · have hne : i * sz ≠ k * sz + j := fun c => by
      have h1 : (k * sz + j) % sz = j := by rw [Nat.mul_comm, Nat.mul_add_mod, Nat.mod_eq_of_lt hj]
      rw [← c, Nat.mul_mod_left] at h1
      subst h1
      exact e ⟨(Nat.eq_of_mul_eq_mul_right h0 (by simpa using c)).symm, rfl⟩
    rw [World.cell?_setCell_other _ _ _ _ (by simp only [ne_eq, Addr.mk.injEq]; omega), (h k j hk hj).1]
    congr 1
    by_cases hj0 : j = 0
    · by_cases hki : k < i
      · rw [if_pos ⟨hj0, hki⟩, if_pos ⟨hj0, by omega⟩]
      · rw [if_neg (fun c => hki c.2), if_neg (fun c => e ⟨by omega, hj0⟩)]
    · rw [if_neg (fun c => hj0 c.1), if_neg (fun c => hj0 c.1)]
def zN (j : Nat) : Value := if j = 4 then .bool false else .int .i64 0
def zP (j : Nat) : Value := if j = 4 then .bool false else if j = 5 then .bool false else .int .i64 0
theorem mk_notes (N : Nat) (c : Int) (hc : c = N) (hN : N ≤ 3000) : ∃ Z, (∀ w : World, Sem.run Tryd.prog (Instr.makeSlice 28 (.int .i64 c) (.int .i64 c)) w = .ok (.slice (some ⟨w.heap.size, 0, none⟩) N N) (w.alloc (.cells Z 65))) ∧ ∀ (w : World) (A : Int), MR (w.alloc (.cells Z 65)) w.heap.size N 6 zN A 0 := by
  obtain ⟨i, hi, hz, hs, hb⟩ := info_parts' nInfo
  refine ⟨madeCells #[.int .i64 0, .int .i64 0, .int .i64 0, .int .i64 0, .bool false, .int .i64 0] (N * 6), fun w => ?_, fun w A => MR.new w _ N 6 _ rfl zN (fun j hj => ?_) A⟩
  · have h := run_make (P := Tryd.prog) w 28 65 i _ Tryd.underlying28 hi hz .i64 .i64 c c (by omega) (Int.le_refl _) (by rw [hb]; omega) (by omega)
    rw [hs] at h
    subst hc
    simpa [Value.cells] using h
  · rcases (by omega : j = 0 ∨ j = 1 ∨ j = 2 ∨ j = 3 ∨ j = 4 ∨ j = 5) with rfl | rfl | rfl | rfl | rfl | rfl <;> rfl
theorem mk_places (N : Nat) (c : Int) (hc : c = N) (hN : N ≤ 3000) : ∃ Z, (∀ w : World, Sem.run Tryd.prog (Instr.makeSlice 38 (.int .i64 c) (.int .i64 c)) w = .ok (.slice (some ⟨w.heap.size, 0, none⟩) N N) (w.alloc (.cells Z 45))) ∧ ∀ (w : World) (A : Int), MR (w.alloc (.cells Z 45)) w.heap.size N 7 zP A 0 := by
  obtain ⟨i, hi, hz, hs, hb⟩ := info_parts' pInfo
  refine ⟨madeCells #[.int .i64 0, .int .i64 0, .int .i64 0, .int .i64 0, .bool false, .bool false, .int .i64 0] (N * 7), fun w => ?_, fun w A => MR.new w _ N 7 _ rfl zP (fun j hj => ?_) A⟩
  · have h := run_make (P := Tryd.prog) w 38 45 i _ Tryd.underlying38 hi hz .i64 .i64 c c (by omega) (Int.le_refl _) (by rw [hb]; omega) (by omega)
    rw [hs] at h
    subst hc
    simpa [Value.cells] using h
  · rcases (by omega : j = 0 ∨ j = 1 ∨ j = 2 ∨ j = 3 ∨ j = 4 ∨ j = 5 ∨ j = 6) with rfl | rfl | rfl | rfl | rfl | rfl | rfl <;> rfl
theorem ckL_rep {A : Int} (hA : 0 ≤ A) : ∀ (N : Nat) (b : Int), b ≤ A → ckL b (List.replicate N ⟨A, 0, 0, 0, false, 0⟩) = 0
  | 0, _, _ => rfl
  | N + 1, b, h => by
    have h0 : ckN b ⟨A, 0, 0, 0, false, 0⟩ = 0 := ckN_ok.2 ⟨h, by unfold POk; simp, by unfold AOk; simp, by simp, by simp⟩
    rw [List.replicate_succ, ckL, if_pos h0]
    exact ckL_rep hA N A (Int.le_refl _)
theorem ckM_rep {A : Int} (hA : 0 ≤ A) : ∀ (N : Nat) (b : Int), b ≤ A → ckM b (List.replicate N ⟨A, 0, 0, 0, false, false, 0⟩) = 0
  | 0, _, _ => rfl
  | N + 1, b, h => by
    have h0 : ckP b ⟨A, 0, 0, 0, false, false, 0⟩ = 0 := by
      unfold ckP POk
      simp only
      rw [if_neg (by omega), if_pos (by omega), if_pos (by omega), if_neg (by simp)]
    rw [List.replicate_succ, ckM, if_pos h0]
    exact ckM_rep hA N A (Int.le_refl _)
theorem made_notes {w : World} {g N : Nat} {A : Int} (h : MR w g N 6 zN A N) (hA : 0 ≤ A) : ∃ L : List Nt, L.length = N ∧ NtsAt w (some ⟨g, 0, none⟩) L ∧ ckA 0 L = if N ≤ 2560 then 0 else 9 := by
  refine ⟨List.replicate N ⟨A, 0, 0, 0, false, 0⟩, List.length_replicate, .inr ⟨g, 0, rfl, fun i n hn => ?_⟩, ?_⟩
  · have hi : i < N := by have := (List.getElem?_eq_some_iff.1 hn).1; rwa [List.length_replicate] at this
    obtain rfl : ⟨A, 0, 0, 0, false, 0⟩ = n := by rw [List.getElem?_replicate, if_pos hi] at hn; exact Option.some.inj hn
    rw [Nat.zero_add]
    have k := fun j hj => (h i j hi hj).1
    have k0 := k 0 (by omega)
    rw [if_pos ⟨rfl, hi⟩] at k0
    exact ⟨k0, k 1 (by omega), k 2 (by omega), k 3 (by omega), k 4 (by omega), k 5 (by omega)⟩
  · unfold ckA
    rw [if_pos (by unfold Sg; omega), List.length_replicate, ckL_rep hA N 0 hA]
theorem made_places {w : World} {g N : Nat} {A : Int} (h : MR w g N 7 zP A N) (hA : 0 ≤ A) : ∃ L : List Pl, L.length = N ∧ PlsAt w (some ⟨g, 0, none⟩) L ∧ ckB 0 L = if N ≤ 2560 then 0 else 9 := by
  refine ⟨List.replicate N ⟨A, 0, 0, 0, false, false, 0⟩, List.length_replicate, .inr ⟨g, 0, rfl, fun i n hn => ?_⟩, ?_⟩
  · have hi : i < N := by have := (List.getElem?_eq_some_iff.1 hn).1; rwa [List.length_replicate] at this
    obtain rfl : ⟨A, 0, 0, 0, false, false, 0⟩ = n := by rw [List.getElem?_replicate, if_pos hi] at hn; exact Option.some.inj hn
    rw [Nat.zero_add]
    have k := fun j hj => (h i j hi hj).1
    have k0 := k 0 (by omega)
    rw [if_pos ⟨rfl, hi⟩] at k0
    exact ⟨k0, k 1 (by omega), k 2 (by omega), k 3 (by omega), k 4 (by omega), k 5 (by omega), k 6 (by omega)⟩
  · unfold ckB
    rw [if_pos (by unfold Sg; omega), List.length_replicate, ckM_rep hA N 0 hA]
end Go.Proofs.YtghlecocnflbnaaDoor
