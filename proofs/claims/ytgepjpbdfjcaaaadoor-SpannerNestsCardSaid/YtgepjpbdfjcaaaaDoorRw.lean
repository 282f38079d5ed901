import Derived.Test.YtgepjpbdfjcaaaaDoorSL
import Derived.Lib.AppendIntMem
import Derived.Maps.AppendAt
import Derived.Deep.AppendLies
/-! Rows of any element, in the making. -/
namespace Go.Proofs.YtgepjpbdfjcaaaaDoor
open Go.RowKit
attribute [local go_sem] World.cell?_alloc_some

theorem flat_at {α : Type} (enc : α → List Value) (sz : Nat) (hs : ∀ x, (enc x).length = sz) : ∀ (M : List α) (i : Nat) (x : α) (j : Nat), M[i]? = some x → j < sz → (M.flatMap enc)[i * sz + j]? = (enc x)[j]?
  | [], i, x, j, h, _ => by simp at h
  | y :: M, 0, x, j, h, hj => by
    simp at h
    subst h
    rw [List.flatMap_cons, Nat.zero_mul, Nat.zero_add, List.getElem?_append_left (by rw [hs]; exact hj)]
  | y :: M, i + 1, x, j, h, hj => by
    rw [List.flatMap_cons, List.getElem?_append_right (by rw [hs, Nat.add_mul]; omega), hs, ← flat_at enc sz hs M i x j (by simpa using h) hj]
    congr 1
    rw [Nat.add_mul]; omega
theorem flat_len {α : Type} (enc : α → List Value) (sz : Nat) (hs : ∀ x, (enc x).length = sz) : ∀ M : List α, (M.flatMap enc).length = M.length * sz
  | [] => by simp
  | y :: M => by rw [List.flatMap_cons, List.length_append, hs, flat_len enc sz hs M, List.length_cons, Nat.add_mul]; omega
/-- a row of elements, in the making -/
def Row {α : Type} (enc : α → List Value) (e : TypeId) (sz : Nat) (base : Nat) (wr : World) (v : Value) (M : List α) : Prop := wr.ownsRow base e sz v M.length (M.flatMap enc)
section
variable {α : Type} {enc : α → List Value} {e : TypeId} {sz base : Nat} {wr wr' : World} {v : Value} {M : List α}
theorem Row.nil (wr : World) : Row enc e sz base wr (.slice none 0 0) [] := World.ownsRow_nil _ _ _ _
theorem Row.later (h : Row enc e sz base wr v M) (g : G wr wr') : Row enc e sz base wr' v M := own_later h g
theorem Row.far (h : Row enc e sz base wr v M) {b : Nat} (hb : b < base) (j : Nat) (u : Value) : Row enc e sz base (wr.setCell ⟨b, j, none⟩ u) v M := by
  refine World.ownsRow.kept (row := some b) h ⟨rfl, rfl, rfl, by simp [World.setCell], fun k _ hk => heap_setCell_other _ _ _ _ (fun e => hk (by rw [e]))⟩ ?_
  rcases h.2 with ⟨rfl, _⟩ | ⟨g, cap, cur, rfl, hg, _, _⟩
  · exact .inl rfl
  · refine .inr ?_
    simp only [Value.ownBlock, ne_eq, Option.some.injEq]
    omega
theorem Row.setCells {b : Nat} (hb : b < base) : ∀ (vs : List Value) (o : Nat) {wr : World}, Row enc e sz base wr v M → Row enc e sz base (wr.setCells b o vs) v M
  | [], _, _, h => h
  | u :: r, o, _, h => by
    rw [World.setCells]
    exact Row.setCells hb r (o + 1) (h.far hb o u)
theorem Row.more {x : α} {v' : Value} (ho : wr'.ownsRow base e sz v' (M.length + 1) (M.flatMap enc ++ enc x)) : Row enc e sz base wr' v' (M ++ [x]) := by
  unfold Row
  rw [List.flatMap_append, List.length_append]
  simpa using ho
/-- where a row lies, and its cells -/
theorem Row.cells (h : Row enc e sz base wr v M) (hs : ∀ x, (enc x).length = sz) :
    (v = .slice none 0 0 ∧ M = []) ∨ ∃ g cap, v = .slice (some ⟨g, 0, none⟩) M.length cap ∧ base ≤ g ∧ M.length ≤ cap ∧ cap ≤ maxLen ∧
      ∀ (i : Nat) (x : α), M[i]? = some x → ∀ (j : Nat) (u : Value), (enc x)[j]? = some u → wr.cell? ⟨g, i * sz + j, none⟩ = some u ∧ wr.frozen? ⟨g, i * sz + j, none⟩ = false := by
  obtain ⟨hl, h⟩ := h
  rcases h with ⟨rfl, h0⟩ | ⟨g, cap, cur, rfl, hg, hb, hc, hc2, hsz, htk⟩
  · exact .inl ⟨rfl, List.length_eq_zero_iff.1 h0⟩
  · refine .inr ⟨g, cap, rfl, hg, hc, hc2, fun i x hx j u hu => ?_⟩
    have hj : j < sz := by rw [← hs x]; exact (List.getElem?_eq_some_iff.1 hu).1
    have hi := (List.getElem?_eq_some_iff.1 hx).1
    have h1 := flat_at enc sz hs M i x j hx hj
    rw [← htk, hu, List.getElem?_take] at h1
    split at h1
    · refine ⟨?_, ?_⟩
      · rw [cell_of_row wr g (i * sz + j) cur e (0, 0) hb]
        simpa using h1
      · simp [World.frozen?, hb]
    · cases h1
theorem Row.len (h : Row enc e sz base wr v M) : ∃ p cap, v = .slice p M.length cap ∧ cap ≤ maxLen := by
  rcases h.2 with ⟨rfl, h0⟩ | ⟨g, cap, cur, rfl, _, _, _, hm, _⟩
  · exact ⟨none, 0, by rw [h0], Nat.zero_le _⟩
  · exact ⟨_, cap, rfl, hm⟩
end
theorem new_add (W : World) (B : Nat) (L : List Value) (t : TypeId) (hs : W.heap.size = B) : ∀ (j : Nat) (u : Value), L[j]? = some u → (W.alloc (.cells L.toArray t)).cell? ((⟨B, 0, none⟩ : Addr).add j) = some u := by
  intro j u hj
  subst hs
  have h : ((⟨W.heap.size, 0, none⟩ : Addr).add j) = ⟨W.heap.size, j, none⟩ := by
    unfold Addr.add
    split
    · rename_i h; subst h; rfl
    · simp
  rw [h, World.cell?_alloc_new]
  simpa using hj
theorem Row.ne {α : Type} {enc : α → List Value} {e : TypeId} {sz base : Nat} {wr : World} {v : Value} {M : List α} (h : Row enc e sz base wr v M) {b : Nat} (hb : b < base) : v.ownBlock ≠ some b := by
  rcases h.2 with ⟨rfl, _⟩ | ⟨g, cap, cur, rfl, hg, _, _⟩
  · simp [Value.ownBlock]
  · simp only [Value.ownBlock, ne_eq, Option.some.injEq]; omega
theorem Row.own {α : Type} {enc : α → List Value} {e : TypeId} {sz base : Nat} {wr : World} {v : Value} {M : List α} (h : Row enc e sz base wr v M) : ∀ k, v.ownBlock = some k → base ≤ k := fun k hk => by
  rcases h.2 with ⟨rfl, _⟩ | ⟨g, cap, cur, rfl, hg, _, _⟩
  · simp [Value.ownBlock] at hk
  · obtain rfl : g = k := by simpa [Value.ownBlock] using hk
    exact hg
/-- the world behind an append -/
theorem G.more {a w w' : World} {obj : Obj} {v : Value} (g : G a w) (hg : (w.alloc obj).grownBy w' v.ownBlock) (hb : ∀ k, v.ownBlock = some k → a.heap.size ≤ k) : G a w' :=
  Below.grown (g.alloc obj) hg (by have := g.size; simp; omega) hb
theorem info_parts' {P : Program} {t : TypeId} {z : Value} {s b : Nat} (h : (P.info? t).map (fun i => (i.zero, i.size, i.bytes)) = some (some z, s, b)) : ∃ i, P.info? t = some i ∧ i.zero = some z ∧ i.size = s ∧ i.bytes = b := by
  cases hi : P.info? t with
  | none => rw [hi] at h; cases h
  | some i =>
    rw [hi] at h
    simp only [Option.map_some, Option.some.injEq, Prod.mk.injEq] at h
    exact ⟨i, rfl, h.1, h.2.1, h.2.2⟩

section
variable {α : Type} {enc : α → List Value} {e : TypeId} {sz base : Nat} {wr wr' : World} {v : Value} {M : List α}
theorem Row.al (h : Row enc e sz base wr v M) (ob : Obj) : Row enc e sz base (wr.alloc ob) v M := h.later (show G wr (wr.alloc ob) by (repeat' (first | (with_reducible exact G.refl _) | (with_reducible assumption) | (with_reducible refine G.drewN ?_ _) | (with_reducible refine G.drew ?_) | (with_reducible refine G.alloc ?_ _) | (with_reducible refine G.setCell ?_ (by first | (with_reducible exact Nat.le_refl _) | (simp; done) | (simp; omega) | omega) _) | (with_reducible refine G.trans ?_ (by assumption)))))
theorem Row.drw (h : Row enc e sz base wr v M) : Row enc e sz base wr.drew v M := h.later (show G wr wr.drew by (repeat' (first | (with_reducible exact G.refl _) | (with_reducible refine G.drewN ?_ _) | (with_reducible refine G.drew ?_) | (with_reducible refine G.alloc ?_ _))))
theorem Row.farN (h : Row enc e sz base wr v M) {b : Nat} (hb : v.ownBlock ≠ some b) (j : Nat) (u : Value) : Row enc e sz base (wr.setCell ⟨b, j, none⟩ u) v M :=
  World.ownsRow.kept (row := some b) h ⟨rfl, rfl, rfl, by simp [World.setCell], fun k _ hk => heap_setCell_other _ _ _ _ (fun e => hk (by rw [e]))⟩ (.inr hb)
theorem Row.ltN (h : Row enc e sz base wr v M) : v.ownBlock ≠ some wr.heap.size := by
  rcases h.2 with ⟨rfl, _⟩ | ⟨g, cap, cur, rfl, _, hb, _⟩
  · simp [Value.ownBlock]
  · have hlt : g < wr.heap.size := by
      by_cases c : g < wr.heap.size
      · exact c
      · rw [Array.getElem?_eq_none (by omega)] at hb; cases hb
    simp only [Value.ownBlock, ne_eq, Option.some.injEq]
    omega
theorem Row.ownLt (h : Row enc e sz base wr v M) : ∀ k, v.ownBlock = some k → k < wr.heap.size := fun k hk => by
  rcases h.2 with ⟨rfl, _⟩ | ⟨g, cap, cur, rfl, _, hb, _⟩
  · simp [Value.ownBlock] at hk
  · obtain rfl : g = k := by simpa [Value.ownBlock] using hk
    by_cases c : g < wr.heap.size
    · exact c
    · rw [Array.getElem?_eq_none (by omega)] at hb; cases hb
/-- a shorter slice of a row -/
theorem Row.cut {g cap n : Nat} {x : α} (hs : ∀ x, (enc x).length = sz) (h : Row enc e sz base wr (.slice (some ⟨g, 0, none⟩) n cap) (M ++ [x])) : Row enc e sz base wr (.slice (some ⟨g, 0, none⟩) M.length cap) M := by
  obtain ⟨hl, h⟩ := h
  rcases h with ⟨h, _⟩ | ⟨g', cap', cur, hv, hg, hb, hc, hc2, hsz, htk⟩
  · cases h
  · simp only [Value.slice.injEq, Option.some.injEq, Addr.mk.injEq, and_true] at hv
    obtain ⟨rfl, rfl, rfl⟩ := hv
    rw [List.length_append, List.length_singleton] at hc htk hl
    refine ⟨flat_len enc sz hs M, .inr ⟨g, cap, cur, rfl, hg, hb, by omega, hc2, hsz, ?_⟩⟩
    have h2 := congrArg (List.take (M.length * sz)) htk
    rw [List.take_take, Nat.min_eq_left (Nat.mul_le_mul_right _ (by omega)), List.flatMap_append, List.take_append_of_le_length (by rw [flat_len enc sz hs M]; omega)] at h2
    exact h2.trans (List.take_of_length_le (by rw [flat_len enc sz hs M]; omega))
end
def inE (x : Int) : List Value := [.int .i64 x]
theorem inE_len (x : Int) : (inE x).length = 1 := rfl
theorem iInfo : (Tryd.prog.info? 3).map (fun i => (i.zero, i.size, i.bytes)) = some (some (.int .i64 0), 1, 8) := by kernel_rfl
def spE (x : Sp) : List Value := [.int .i64 x.k, .int .i64 x.f.m, .int .i64 x.f.a, .int .i64 x.f.s, .int .i64 x.f.v, .int .i64 x.t.m, .int .i64 x.t.a, .int .i64 x.t.s, .int .i64 x.t.v]
theorem spE_len (x : Sp) : (spE x).length = 9 := rfl
theorem sInfo : (Tryd.prog.info? 31).map (fun i => (i.zero, i.size, i.bytes)) = some (some (.agg #[.int .i64 0, .int .i64 0, .int .i64 0, .int .i64 0, .int .i64 0, .int .i64 0, .int .i64 0, .int .i64 0, .int .i64 0]), 9, 72) := by kernel_rfl
theorem Row.sps {e : TypeId} {base : Nat} {w : World} {v : Value} {l : List Sp} (h : Row spE e 9 base w v l) : ∃ a c, v = .slice a l.length c ∧ l.length ≤ c ∧ SpsAt w a l := by
  rcases h.cells spE_len with ⟨rfl, rfl⟩ | ⟨g, cap, rfl, _, hc2, _, hc⟩
  · exact ⟨none, 0, rfl, Nat.le_refl _, .inl rfl⟩
  · refine ⟨_, _, rfl, hc2, .inr ⟨g, 0, rfl, fun i n hn => ?_⟩⟩
    rw [Nat.zero_add]
    exact ⟨(hc i n hn 0 _ rfl).1, (hc i n hn 1 _ rfl).1, (hc i n hn 2 _ rfl).1, (hc i n hn 3 _ rfl).1, (hc i n hn 4 _ rfl).1, (hc i n hn 5 _ rfl).1, (hc i n hn 6 _ rfl).1, (hc i n hn 7 _ rfl).1, (hc i n hn 8 _ rfl).1⟩
end Go.Proofs.YtgepjpbdfjcaaaaDoor
