import Derived.Test.YthengbhokamhbaaDoorArr
import Derived.Test.YthengbhokamhbaaDoorSumB
import Derived.Deep.Slices
import Derived.Carry
/-! A slice of pairs that came in as an argument. -/
namespace Go.Proofs.YthengbhokamhbaaDoor
open Go.ChangeShapes Go.WideShapes Go.ChangeAt Go.RowKit
def PrsAt (w : World) (a : Option Addr) (l : List Pr) : Prop :=
  l = [] ∨ ∃ b o, a = some ⟨b, o, none⟩ ∧ ∀ (i : Nat) (p : Pr), l[i]? = some p →
    w.cell? ⟨b, o + i * 2, none⟩ = some (.int .i64 p.1) ∧ w.cell? ⟨b, o + i * 2 + 1, none⟩ = some (.int .i64 p.2)
theorem PrsAt.later {w w' : World} {a : Option Addr} {l : List Pr} (h : PrsAt w a l) (g : G w w') : PrsAt w' a l := by
  rcases h with h | ⟨b, o, h, k⟩
  · exact .inl h
  · exact .inr ⟨b, o, h, fun i x hx => ⟨g.at' (k i x hx).1, g.at' (k i x hx).2⟩⟩
set_option maxRecDepth 100000 in
theorem cells_pr {H : Type} {enc : TypeId × Value → H} {W : World} {base : Nat} {sp : Nat → Bool} {held : Bool} {n : Nat} {cs : List Value} {x : DataW H × List MemPlace} (hl : cs.length = 2)
    (h : DataW.trod enc Tryd.prog W base sp held n 30 cs = some x) : ∃ p : Pr, cs = [.int .i64 p.1, .int .i64 p.2] ∧ ((Lit.int .i64 p.1).wf = true ∧ (Lit.int .i64 p.2).wf = true) := by
  match cs, hl with
  | [c0, c1], _ =>
    obtain ⟨y0, y1, n, hx, h0, h1⟩ := trod_array2 Tryd.underlying30 intCells h
    obtain ⟨a, e0, ea, wa⟩ := DataW.trod_int Tryd.underlying3 h0
    obtain ⟨b, e1, eb, wb⟩ := DataW.trod_int Tryd.underlying3 h1
    simp at e0 e1
    subst e0 e1
    exact ⟨(a, b), rfl, wa, wb⟩
set_option maxRecDepth 100000 in
theorem open_prsArg {H : Type} {enc : TypeId × Value → H} {W : World} {base b0 : Nat} {sp : Nat → Bool} {held : Bool} {v : Value} {d : DataW H} {p : List MemPlace}
    (hv : Value.okWide Tryd.prog W .any b0 22 v) (h : DataW.Trod enc Tryd.prog W base sp held 22 v d p) :
    ∃ a cap l, v = .slice a l.length cap ∧ l.length ≤ cap ∧ cap ≤ maxLen ∧ PrsAt W a l ∧ (∀ n ∈ l, (Lit.int .i64 n.1).wf = true ∧ (Lit.int .i64 n.2).wf = true) ∧ (a = none → cap = 0) := by
  obtain ⟨a0, len, cap, rfl⟩ := okWide_slice Tryd.underlying22 hv
  obtain ⟨fuel, hf⟩ := h
  rcases Go.Deep.open_slice Tryd.underlying22 hf with ⟨hcs, _⟩ | ⟨a, len', cap', m, n, D, Pl, hcs, _, hl, hm, hmm, _, hx⟩
  · simp [Value.cells] at hcs
    obtain ⟨rfl, rfl, rfl⟩ := hcs
    exact ⟨none, 0, [], rfl, Nat.le_refl _, Nat.zero_le _, .inl rfl, by simp, fun _ => rfl⟩
  · simp [Value.cells] at hcs
    obtain ⟨rfl, rfl, rfl⟩ := hcs
    have hlm : len ≤ m := by rw [hmm]; split <;> omega
    rw [arrCells] at hx
    obtain ⟨f, hf2⟩ := Go.Deep.choose_lt (α := Pr) (n := len) (p := fun i q => (W.cell? (a.add (i * 2)) = some (.int .i64 q.1) ∧ W.cell? ((a.add (i * 2)).add 1) = some (.int .i64 q.2)) ∧ ((Lit.int .i64 q.1).wf = true ∧ (Lit.int .i64 q.2).wf = true)) (fun i hi => by
      obtain ⟨cs', h1, h2⟩ := hx i (by omega)
      obtain ⟨_, hlen, hcell⟩ := World.cells?_some h1
      obtain ⟨q, rfl, hw⟩ := cells_pr hlen h2
      refine ⟨q, ⟨?_, ?_⟩, hw⟩
      · have := hcell 0 (by omega)
        simpa [Addr.add] using this
      · have := hcell 1 (by omega)
        simpa using this)
    refine ⟨some a, cap, (List.range len).map f, by simp, by simpa using hl, hm, ?_, ?_, by simp⟩
    · by_cases h0 : len = 0
      · exact .inl (by rw [h0]; rfl)
      · obtain ⟨b, o, s⟩ := a
        have hspot : s = none := by simpa [Addr.add] using World.cell?_spot (hf2 0 (by omega)).1.1
        subst hspot
        refine .inr ⟨b, o, rfl, fun i x hx => ?_⟩
        rw [List.getElem?_map] at hx
        obtain ⟨j, hj, rfl⟩ := Option.map_eq_some_iff.1 hx
        obtain ⟨hi, hj2⟩ := List.getElem?_eq_some_iff.1 hj
        rw [List.getElem_range] at hj2
        subst hj2
        rw [List.length_range] at hi
        obtain ⟨⟨y0, y1⟩, _⟩ := hf2 i hi
        rw [Go.Deep.add_add] at y1
        refine ⟨?_, ?_⟩
        · by_cases hi0 : i = 0
          · subst hi0; simpa [Addr.add] using y0
          · have h3 : ¬ i * 2 = 0 := by omega
            simpa [Addr.add, h3] using y0
        · simpa [Addr.add, Nat.add_assoc] using y1
    · intro q hq
      obtain ⟨i, hi, rfl⟩ := List.mem_map.1 hq
      exact (hf2 i (List.mem_range.1 hi)).2
end Go.Proofs.YthengbhokamhbaaDoor
