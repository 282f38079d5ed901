import Derived.Test.YtghlecocnflbnaaDoorA4
import Derived.Lib.AppendIntMem
import Derived.Maps.AppendAt
import Derived.Deep.AppendLies
/-! Rows of any element, in the making. -/
namespace Go.Proofs.YtghlecocnflbnaaDoor
open Go.RowKit
attribute [local go_sem] World.cell?_alloc_some

theorem flat_at {α : Type} (enc : α → List Value) (sz : Nat) (hs : ∀ x, (enc x).length = sz) : ∀ (M : List α) (i : Nat) (x : α) (j : Nat), M[i]? = some x → j < sz → (M.flatMap enc)[i * sz + j]? = (enc x)[j]?
  | [], i, x, j, h, _ => by simp at h
  | y :: M, 0, x, j, h, hj => by
    simp at h
    subst h
    rw [List.flatMap_cons, Nat.zero_mul, Nat.zero_add, List.getElem?_append_left (by rw [hs]; exact hj)]
  | y :: M, i + 1, x, j, h, hj => by
    rw [List.flatMap_cons, List.getElem?_append_right (by rw [hs, Nat.add_mul]; omega), hs, ← flat_at enc sz hs M i x j (by simpa using h) hj]
    congr 1
    rw [Nat.add_mul]; omega
theorem flat_len {α : Type} (enc : α → List Value) (sz : Nat) (hs : ∀ x, (enc x).length = sz) : ∀ M : List α, (M.flatMap enc).length = M.length * sz
  | [] => by simp
  | y :: M => by rw [List.flatMap_cons, List.length_append, hs, flat_len enc sz hs M, List.length_cons, Nat.add_mul]; omega
/-- a row of elements, in the making -/
def Row {α : Type} (enc : α → List Value) (e : TypeId) (sz : Nat) (base : Nat) (wr : World) (v : Value) (M : List α) : Prop := wr.ownsRow base e sz v M.length (M.flatMap enc)
section
variable {α : Type} {enc : α → List Value} {e : TypeId} {sz base : Nat} {wr wr' : World} {v : Value} {M : List α}
theorem Row.nil (wr : World) : Row enc e sz base wr (.slice none 0 0) [] := World.ownsRow_nil _ _ _ _
theorem Row.later (h : Row enc e sz base wr v M) (g : G wr wr') : Row enc e sz base wr' v M := own_later h g
theorem Row.far (h : Row enc e sz base wr v M) {b : Nat} (hb : b < base) (j : Nat) (u : Value) : Row enc e sz base (wr.setCell ⟨b, j, none⟩ u) v M := by
  refine World.ownsRow.kept (row := some b) h ⟨rfl, rfl, rfl, by simp [World.setCell], fun k _ hk => heap_setCell_other _ _ _ _ (fun e => hk (by rw [e]))⟩ ?_
  rcases h.2 with ⟨rfl, _⟩ | ⟨g, cap, cur, rfl, hg, _, _⟩
  · exact .inl rfl
  · refine .inr ?_
    simp only [Value.ownBlock, ne_eq, Option.some.injEq]
    omega
theorem Row.setCells {b : Nat} (hb : b < base) : ∀ (vs : List Value) (o : Nat) {wr : World}, Row enc e sz base wr v M → Row enc e sz base (wr.setCells b o vs) v M
  | [], _, _, h => h
  | u :: r, o, _, h => by
    rw [World.setCells]
    exact Row.setCells hb r (o + 1) (h.far hb o u)
theorem Row.more {x : α} {v' : Value} (ho : wr'.ownsRow base e sz v' (M.length + 1) (M.flatMap enc ++ enc x)) : Row enc e sz base wr' v' (M ++ [x]) := by
  unfold Row
  rw [List.flatMap_append, List.length_append]
  simpa using ho
/-- where a row lies, and its cells -/
theorem Row.cells (h : Row enc e sz base wr v M) (hs : ∀ x, (enc x).length = sz) :
    (v = .slice none 0 0 ∧ M = []) ∨ ∃ g cap, v = .slice (some ⟨g, 0, none⟩) M.length cap ∧ base ≤ g ∧ M.length ≤ cap ∧ cap ≤ maxLen ∧
      ∀ (i : Nat) (x : α), M[i]? = some x → ∀ (j : Nat) (u : Value), (enc x)[j]? = some u → wr.cell? ⟨g, i * sz + j, none⟩ = some u ∧ wr.frozen? ⟨g, i * sz + j, none⟩ = false := by
  obtain ⟨hl, h⟩ := h
  rcases h with ⟨rfl, h0⟩ | ⟨g, cap, cur, rfl, hg, hb, hc, hc2, hsz, htk⟩
  · exact .inl ⟨rfl, List.length_eq_zero_iff.1 h0⟩
  · refine .inr ⟨g, cap, rfl, hg, hc, hc2, fun i x hx j u hu => ?_⟩
    have hj : j < sz := by rw [← hs x]; exact (List.getElem?_eq_some_iff.1 hu).1
    have hi := (List.getElem?_eq_some_iff.1 hx).1
    have h1 := flat_at enc sz hs M i x j hx hj
    rw [← htk, hu, List.getElem?_take] at h1
    split at h1
    · refine ⟨?_, ?_⟩
      · rw [cell_of_row wr g (i * sz + j) cur e (0, 0) hb]
        simpa using h1
      · simp [World.frozen?, hb]
    · cases h1
theorem Row.len (h : Row enc e sz base wr v M) : ∃ p cap, v = .slice p M.length cap ∧ cap ≤ maxLen := by
  rcases h.2 with ⟨rfl, h0⟩ | ⟨g, cap, cur, rfl, _, _, _, hm, _⟩
  · exact ⟨none, 0, by rw [h0], Nat.zero_le _⟩
  · exact ⟨_, cap, rfl, hm⟩
end
theorem new_add (W : World) (B : Nat) (L : List Value) (t : TypeId) (hs : W.heap.size = B) : ∀ (j : Nat) (u : Value), L[j]? = some u → (W.alloc (.cells L.toArray t)).cell? ((⟨B, 0, none⟩ : Addr).add j) = some u := by
  intro j u hj
  subst hs
  have h : ((⟨W.heap.size, 0, none⟩ : Addr).add j) = ⟨W.heap.size, j, none⟩ := by
    unfold Addr.add
    split
    · rename_i h; subst h; rfl
    · simp
  rw [h, World.cell?_alloc_new]
  simpa using hj
/-- what an append leaves of other blocks -/
theorem Arr.grown {w w' : World} {b : Nat} {F : Int → Int} (h : Arr w b F) {row : Option Nat} (g : w.grownBy w' row) (hne : row ≠ some b) : Arr w' b F := fun j hj => by
  have hlt := cell_lt (h j hj).1
  have e := g.block b hlt (fun e => hne e.symm)
  obtain ⟨c, f⟩ := h j hj
  refine ⟨?_, ?_⟩
  · rw [← c]; unfold World.cell?; simp only; rw [e]
  · rw [← f]; unfold World.frozen?; simp only; rw [e]
theorem Cls.grown {w w' : World} {b n : Nat} {F : Nat → Bool} (h : Cls w b n F) {row : Option Nat} (g : w.grownBy w' row) (hne : row ≠ some b) : Cls w' b n F := fun j hj => by
  have hlt := cell_lt (h j hj).1
  have e := g.block b hlt (fun e => hne e.symm)
  obtain ⟨c, f⟩ := h j hj
  refine ⟨?_, ?_⟩
  · rw [← c]; unfold World.cell?; simp only; rw [e]
  · rw [← f]; unfold World.frozen?; simp only; rw [e]
theorem Row.ne {α : Type} {enc : α → List Value} {e : TypeId} {sz base : Nat} {wr : World} {v : Value} {M : List α} (h : Row enc e sz base wr v M) {b : Nat} (hb : b < base) : v.ownBlock ≠ some b := by
  rcases h.2 with ⟨rfl, _⟩ | ⟨g, cap, cur, rfl, hg, _, _⟩
  · simp [Value.ownBlock]
  · simp only [Value.ownBlock, ne_eq, Option.some.injEq]; omega
theorem Row.own {α : Type} {enc : α → List Value} {e : TypeId} {sz base : Nat} {wr : World} {v : Value} {M : List α} (h : Row enc e sz base wr v M) : ∀ k, v.ownBlock = some k → base ≤ k := fun k hk => by
  rcases h.2 with ⟨rfl, _⟩ | ⟨g, cap, cur, rfl, hg, _, _⟩
  · simp [Value.ownBlock] at hk
  · obtain rfl : g = k := by simpa [Value.ownBlock] using hk
    exact hg
/-- the world behind an append -/
theorem G.more {a w w' : World} {obj : Obj} {v : Value} (g : G a w) (hg : (w.alloc obj).grownBy w' v.ownBlock) (hb : ∀ k, v.ownBlock = some k → a.heap.size ≤ k) : G a w' :=
  Below.grown (g.alloc obj) hg (by have := g.size; simp; omega) hb
theorem Arr.more {w w' : World} {obj : Obj} {v : Value} {b : Nat} {F : Int → Int} (h : Arr w b F) (hg : (w.alloc obj).grownBy w' v.ownBlock) (hb : v.ownBlock ≠ some b) : Arr w' b F :=
  (h.later (show G w (w.alloc obj) from (G.refl w).alloc obj)).grown hg hb
theorem Cls.more {w w' : World} {obj : Obj} {v : Value} {b n : Nat} {F : Nat → Bool} (h : Cls w b n F) (hg : (w.alloc obj).grownBy w' v.ownBlock) (hb : v.ownBlock ≠ some b) : Cls w' b n F :=
  (h.later (show G w (w.alloc obj) from (G.refl w).alloc obj)).grown hg hb
end Go.Proofs.YtghlecocnflbnaaDoor
