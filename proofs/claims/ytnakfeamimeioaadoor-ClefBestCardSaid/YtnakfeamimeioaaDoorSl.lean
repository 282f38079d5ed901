import Derived.Test.YtnakfeamimeioaaDoorC8
import Derived.Test.YtnakfeamimeioaaDoorLaid
import Derived.Test.YtnakfeamimeioaaDoorLedgersLaw
import Derived.Deep.Slices
import Derived.Carry
import Derived.BigRegion
/-! Slices of integers and of pitches that came in as arguments. -/
namespace Go.Proofs.YtnakfeamimeioaaDoor
open Go.ChangeShapes Go.WideShapes Go.ChangeAt Go.RowKit
/-- the elements of a slice of integers lie in a world -/
def IntsAt (w : World) (a : Option Addr) (l : List Int) : Prop :=
  l = [] ∨ ∃ b o, a = some ⟨b, o, none⟩ ∧ ∀ (i : Nat) (x : Int), l[i]? = some x → w.cell? ⟨b, o + i, none⟩ = some (.int .i64 x)
def PitsAt (w : World) (a : Option Addr) (l : List (Int × Int × Int)) : Prop :=
  l = [] ∨ ∃ b o, a = some ⟨b, o, none⟩ ∧ ∀ (i : Nat) (p : Int × Int × Int), l[i]? = some p →
    w.cell? ⟨b, o + i * 3, none⟩ = some (.int .i64 p.1) ∧ w.cell? ⟨b, o + i * 3 + 1, none⟩ = some (.int .i64 p.2.1) ∧ w.cell? ⟨b, o + i * 3 + 2, none⟩ = some (.int .i64 p.2.2)
theorem IntsAt.later {w w' : World} {a : Option Addr} {l : List Int} (h : IntsAt w a l) (g : G w w') : IntsAt w' a l := by
  rcases h with h | ⟨b, o, h, k⟩
  · exact .inl h
  · exact .inr ⟨b, o, h, fun i x hx => g.at (k i x hx)⟩
theorem PitsAt.later {w w' : World} {a : Option Addr} {l : List (Int × Int × Int)} (h : PitsAt w a l) (g : G w w') : PitsAt w' a l := by
  rcases h with h | ⟨b, o, h, k⟩
  · exact .inl h
  · exact .inr ⟨b, o, h, fun i x hx => ⟨g.at (k i x hx).1, g.at (k i x hx).2.1, g.at (k i x hx).2.2⟩⟩
theorem take_at {α : Type} {l : List α} {k i : Nat} {x : α} (h : (l.take k)[i]? = some x) : l[i]? = some x := by
  rw [List.getElem?_take] at h
  split at h
  · exact h
  · cases h
theorem IntsAt.take {w : World} {a : Option Addr} {l : List Int} (h : IntsAt w a l) (k : Nat) : IntsAt w a (l.take k) := by
  rcases h with h | ⟨b, o, h, f⟩
  · exact .inl (by rw [h]; simp)
  · exact .inr ⟨b, o, h, fun i x hx => f i x (take_at hx)⟩
theorem PitsAt.take {w : World} {a : Option Addr} {l : List (Int × Int × Int)} (h : PitsAt w a l) (k : Nat) : PitsAt w a (l.take k) := by
  rcases h with h | ⟨b, o, h, f⟩
  · exact .inl (by rw [h]; simp)
  · exact .inr ⟨b, o, h, fun i x hx => f i x (take_at hx)⟩

set_option maxRecDepth 100000 in
theorem open_intsArg {H : Type} {enc : TypeId × Value → H} {W : World} {base b0 : Nat} {sp : Nat → Bool} {held : Bool} {v : Value} {d : DataW H} {p : List MemPlace}
    (hv : Value.okWide Tryd.prog W .any b0 41 v) (h : DataW.Trod enc Tryd.prog W base sp held 41 v d p) :
    ∃ a cap l, v = .slice a l.length cap ∧ l.length ≤ cap ∧ cap ≤ maxLen ∧ IntsAt W a l ∧ (∀ n ∈ l, (Lit.int .i64 n).wf = true) ∧ (a = none → cap = 0) := by
  obtain ⟨a0, len, cap, rfl⟩ := okWide_slice Tryd.underlying41 hv
  obtain ⟨fuel, hf⟩ := h
  rcases open_ints Tryd.underlying41 Tryd.underlying3 intCells hf with ⟨hcs, _⟩ | ⟨a, len', cap', zs, hcs, _, hl, hm, hz, _, hcell, hwz⟩
  · simp [Value.cells] at hcs
    obtain ⟨rfl, rfl, rfl⟩ := hcs
    exact ⟨none, 0, [], rfl, Nat.le_refl _, Nat.zero_le _, .inl rfl, by simp, fun _ => rfl⟩
  · simp [Value.cells] at hcs
    obtain ⟨rfl, rfl, rfl⟩ := hcs
    have hlz : len ≤ zs.length := by rw [hz]; split <;> omega
    refine ⟨some a, cap, zs.take len, by rw [List.length_take, Nat.min_eq_left hlz], by rw [List.length_take, Nat.min_eq_left hlz]; exact hl, hm, ?_, fun n hn => hwz n (List.mem_of_mem_take hn), by simp⟩
    by_cases h0 : len = 0
    · exact .inl (by rw [h0]; simp)
    · obtain ⟨b, o, s⟩ := a
      have hspot : s = none := by simpa [Addr.add] using World.cell?_spot (hcell 0 (by omega))
      subst hspot
      refine .inr ⟨b, o, rfl, fun i x hx => ?_⟩
      have hx2 := take_at hx
      obtain ⟨hi, hx3⟩ := List.getElem?_eq_some_iff.1 hx2
      have := hcell i hi
      rw [List.getD_eq_getElem?_getD, hx2] at this
      by_cases hi0 : i = 0
      · subst hi0; simpa [Addr.add] using this
      · simpa [Addr.add, hi0] using this
set_option maxRecDepth 100000 in
theorem cells_pitch {H : Type} {enc : TypeId × Value → H} {W : World} {base : Nat} {sp : Nat → Bool} {held : Bool} {n : Nat} {cs : List Value} {x : DataW H × List MemPlace} (hl : cs.length = 3)
    (h : DataW.trod enc Tryd.prog W base sp held n 23 cs = some x) : ∃ p : Int × Int × Int, cs = [.int .i64 p.1, .int .i64 p.2.1, .int .i64 p.2.2] ∧ ((Lit.int .i64 p.1).wf = true ∧ (Lit.int .i64 p.2.1).wf = true ∧ (Lit.int .i64 p.2.2).wf = true) := by
  match cs, hl with
  | [c0, c1, c2], _ =>
    obtain ⟨xs, n, _, ex, _, hl, hel⟩ := DataW.trod_struct Tryd.underlying23 h
    have e0 : DataW.trod enc Tryd.prog W base sp held n 3 (([c0, c1, c2].drop 0).take (Tryd.prog.cellsOf 3)) = xs[0]? := hel 0 _ rfl
    have e1 : DataW.trod enc Tryd.prog W base sp held n 3 (([c0, c1, c2].drop 1).take (Tryd.prog.cellsOf 3)) = xs[1]? := hel 1 _ rfl
    have e2 : DataW.trod enc Tryd.prog W base sp held n 3 (([c0, c1, c2].drop 2).take (Tryd.prog.cellsOf 3)) = xs[2]? := hel 2 _ rfl
    rw [intCells] at e0 e1 e2
    match xs, hl with
    | [x0, x1, x2], _ =>
      obtain ⟨a, f0, ea, wa⟩ := DataW.trod_int Tryd.underlying3 e0
      obtain ⟨b, f1, eb, wb⟩ := DataW.trod_int Tryd.underlying3 e1
      obtain ⟨c, f2, ec, wc⟩ := DataW.trod_int Tryd.underlying3 e2
      simp at f0 f1 f2
      subst f0 f1 f2
      exact ⟨(a, b, c), rfl, wa, wb, wc⟩

theorem pitchCells3 : Tryd.prog.cellsOf 23 = 3 := by kernel_rfl
set_option maxRecDepth 100000 in
theorem open_pitsArg {H : Type} {enc : TypeId × Value → H} {W : World} {base b0 : Nat} {sp : Nat → Bool} {held : Bool} {v : Value} {d : DataW H} {p : List MemPlace}
    (hv : Value.okWide Tryd.prog W .any b0 49 v) (h : DataW.Trod enc Tryd.prog W base sp held 49 v d p) :
    ∃ a cap l, v = .slice a l.length cap ∧ l.length ≤ cap ∧ cap ≤ maxLen ∧ PitsAt W a l ∧ (∀ n ∈ l, (Lit.int .i64 n.1).wf = true ∧ (Lit.int .i64 n.2.1).wf = true ∧ (Lit.int .i64 n.2.2).wf = true) ∧ (a = none → cap = 0) := by
  obtain ⟨a0, len, cap, rfl⟩ := okWide_slice Tryd.underlying49 hv
  obtain ⟨fuel, hf⟩ := h
  rcases Go.Deep.open_slice Tryd.underlying49 hf with ⟨hcs, _⟩ | ⟨a, len', cap', m, n, D, Pl, hcs, _, hl, hm, hmm, _, hx⟩
  · simp [Value.cells] at hcs
    obtain ⟨rfl, rfl, rfl⟩ := hcs
    exact ⟨none, 0, [], rfl, Nat.le_refl _, Nat.zero_le _, .inl rfl, by simp, fun _ => rfl⟩
  · simp [Value.cells] at hcs
    obtain ⟨rfl, rfl, rfl⟩ := hcs
    have hlm : len ≤ m := by rw [hmm]; split <;> omega
    rw [pitchCells3] at hx
    obtain ⟨f, hf2⟩ := Go.Deep.choose_lt (α := Int × Int × Int) (n := len) (p := fun i q => (W.cell? (a.add (i * 3)) = some (.int .i64 q.1) ∧ W.cell? ((a.add (i * 3)).add 1) = some (.int .i64 q.2.1) ∧ W.cell? ((a.add (i * 3)).add 2) = some (.int .i64 q.2.2)) ∧ ((Lit.int .i64 q.1).wf = true ∧ (Lit.int .i64 q.2.1).wf = true ∧ (Lit.int .i64 q.2.2).wf = true)) (fun i hi => by
      obtain ⟨cs', h1, h2⟩ := hx i (by omega)
      obtain ⟨_, hlen, hcell⟩ := World.cells?_some h1
      obtain ⟨q, rfl, hw⟩ := cells_pitch hlen h2
      refine ⟨q, ⟨?_, ?_, ?_⟩, hw⟩
      · have := hcell 0 (by omega)
        simpa [Addr.add] using this
      · have := hcell 1 (by omega)
        simpa using this
      · have := hcell 2 (by omega)
        simpa using this)
    refine ⟨some a, cap, (List.range len).map f, by simp, by simpa using hl, hm, ?_, ?_, by simp⟩
    · by_cases h0 : len = 0
      · exact .inl (by rw [h0]; rfl)
      · obtain ⟨b, o, s⟩ := a
        have hspot : s = none := by simpa [Addr.add] using World.cell?_spot (hf2 0 (by omega)).1.1
        subst hspot
        refine .inr ⟨b, o, rfl, fun i x hx => ?_⟩
        rw [List.getElem?_map] at hx
        obtain ⟨j, hj, rfl⟩ := Option.map_eq_some_iff.1 hx
        obtain ⟨hi, hj2⟩ := List.getElem?_eq_some_iff.1 hj
        rw [List.getElem_range] at hj2
        subst hj2
        rw [List.length_range] at hi
        obtain ⟨⟨y0, y1, y2⟩, _⟩ := hf2 i hi
        rw [Go.Deep.add_add] at y1 y2
        refine ⟨?_, ?_, ?_⟩
        · by_cases hi0 : i = 0
          · subst hi0; simpa [Addr.add] using y0
          · have h3 : ¬ i * 3 = 0 := by omega
            simpa [Addr.add, h3] using y0
        · simpa [Addr.add, Nat.add_assoc] using y1
        · simpa [Addr.add, Nat.add_assoc] using y2
    · intro q hq
      obtain ⟨i, hi, rfl⟩ := List.mem_map.1 hq
      exact (hf2 i (List.mem_range.1 hi)).2
end Go.Proofs.YtnakfeamimeioaaDoor
