import Derived.Test.YtabaiklagobimaaRows
import Derived.Test.YtabaiklagobimaaRw
import Derived.Deep.Slices
import Derived.Carry
import Derived.ProofKit
import Derived.LaidMore
import Derived.OpenShut
import Derived.Stop.Joined
import Derived.BigRegion
/-! Slices of tuplets and of integers, pairs: opened as arguments. -/
namespace Go.Proofs.Ytabaiklagobimaa
open Go.ChangeShapes Go.WideShapes Go.ChangeAt Go.RowKit

theorem own : ownKnob Try.prog.godebug = none := by kernel_rfl
theorem intCells : Try.prog.cellsOf 3 = 1 := by kernel_rfl
theorem tuCells : Try.prog.cellsOf 52 = 4 := by kernel_rfl
/-- the elements of a slice of integers lie in a world -/
def IntsAt (w : World) (a : Option Addr) (l : List Int) : Prop :=
  l = [] ∨ ∃ b o, a = some ⟨b, o, none⟩ ∧ ∀ (i : Nat) (x : Int), l[i]? = some x → w.cell? ⟨b, o + i, none⟩ = some (.int .i64 x)
theorem IntsAt.later {w w' : World} {a : Option Addr} {l : List Int} (h : IntsAt w a l) (g : G w w') : IntsAt w' a l := by
  rcases h with h | ⟨b, o, h, k⟩
  · exact .inl h
  · exact .inr ⟨b, o, h, fun i x hx => g.at (k i x hx)⟩
theorem IntsAt.take {w : World} {a : Option Addr} {l : List Int} (h : IntsAt w a l) (k : Nat) : IntsAt w a (l.take k) := by
  rcases h with h | ⟨b, o, h, f⟩
  · exact .inl (by rw [h]; simp)
  · exact .inr ⟨b, o, h, fun i x hx => f i x (take_at hx)⟩
set_option maxRecDepth 100000 in
theorem open_intsArg {H : Type} {enc : TypeId × Value → H} {W : World} {base b0 : Nat} {sp : Nat → Bool} {held : Bool} {v : Value} {d : DataW H} {p : List MemPlace}
    (hv : Value.okWide Try.prog W .any b0 40 v) (h : DataW.Trod enc Try.prog W base sp held 40 v d p) :
    ∃ a cap l, v = .slice a l.length cap ∧ l.length ≤ cap ∧ cap ≤ maxLen ∧ IntsAt W a l ∧ (∀ n ∈ l, (Lit.int .i64 n).wf = true) ∧ (a = none → cap = 0) := by
  obtain ⟨a0, len, cap, rfl⟩ := okWide_slice Try.underlying40 hv
  obtain ⟨fuel, hf⟩ := h
  rcases open_ints Try.underlying40 Try.underlying3 intCells hf with ⟨hcs, _⟩ | ⟨a, len', cap', zs, hcs, _, hl, hm, hz, _, hcell, hwz⟩
  · simp [Value.cells] at hcs
    obtain ⟨rfl, rfl, rfl⟩ := hcs
    exact ⟨none, 0, [], rfl, Nat.le_refl _, Nat.zero_le _, .inl rfl, by simp, fun _ => rfl⟩
  · simp [Value.cells] at hcs
    obtain ⟨rfl, rfl, rfl⟩ := hcs
    have hlz : len ≤ zs.length := by rw [hz]; split <;> omega
    refine ⟨some a, cap, zs.take len, by rw [List.length_take, Nat.min_eq_left hlz], by rw [List.length_take, Nat.min_eq_left hlz]; exact hl, hm, ?_, fun n hn => hwz n (List.mem_of_mem_take hn), by simp⟩
    by_cases h0 : len = 0
    · exact .inl (by rw [h0]; simp)
    · obtain ⟨b, o, s⟩ := a
      have hspot : s = none := by simpa [Addr.add] using World.cell?_spot (hcell 0 (by omega))
      subst hspot
      refine .inr ⟨b, o, rfl, fun i x hx => ?_⟩
      have hx2 := take_at hx
      obtain ⟨hi, hx3⟩ := List.getElem?_eq_some_iff.1 hx2
      have := hcell i hi
      rw [List.getD_eq_getElem?_getD, hx2] at this
      by_cases hi0 : i = 0
      · subst hi0; simpa [Addr.add] using this
      · simpa [Addr.add, hi0] using this
set_option maxRecDepth 100000 in
theorem cells_t {H : Type} {enc : TypeId × Value → H} {W : World} {base : Nat} {sp : Nat → Bool} {held : Bool} {n : Nat} {cs : List Value} {x : DataW H × List MemPlace} (hl : cs.length = 4)
    (h : DataW.trod enc Try.prog W base sp held n 52 cs = some x) : ∃ p : Tu, cs = [.int .i64 p.f, .int .i64 p.c, .int .i64 p.a, .int .i64 p.n] ∧ (Lit.int .i64 p.c).wf = true := by
  match cs, hl with
  | [c0, c1, c2, c3], _ =>
    obtain ⟨xs, n, _, ex, _, hl, hel⟩ := DataW.trod_struct Try.underlying52 h
    have e0 : DataW.trod enc Try.prog W base sp held n 3 (([c0, c1, c2, c3].drop 0).take (Try.prog.cellsOf 3)) = xs[0]? := hel 0 _ rfl
    have e1 : DataW.trod enc Try.prog W base sp held n 3 (([c0, c1, c2, c3].drop 1).take (Try.prog.cellsOf 3)) = xs[1]? := hel 1 _ rfl
    have e2 : DataW.trod enc Try.prog W base sp held n 3 (([c0, c1, c2, c3].drop 2).take (Try.prog.cellsOf 3)) = xs[2]? := hel 2 _ rfl
    have e3 : DataW.trod enc Try.prog W base sp held n 3 (([c0, c1, c2, c3].drop 3).take (Try.prog.cellsOf 3)) = xs[3]? := hel 3 _ rfl
    rw [intCells] at e0 e1 e2 e3
    match xs, hl with
    | [x0, x1, x2, x3], _ =>
      obtain ⟨a, f0, ea, wa⟩ := DataW.trod_int Try.underlying3 e0
      obtain ⟨b, f1, eb, wb⟩ := DataW.trod_int Try.underlying3 e1
      obtain ⟨c, f2, ec, wc⟩ := DataW.trod_int Try.underlying3 e2
      obtain ⟨d, f3, ed, wd⟩ := DataW.trod_int Try.underlying3 e3
      simp at f0 f1 f2 f3
      subst f0 f1 f2 f3
      exact ⟨⟨a, b, c, d⟩, rfl, wb⟩
set_option maxRecDepth 100000 in
theorem open_tusArg {H : Type} {enc : TypeId × Value → H} {W : World} {base b0 : Nat} {sp : Nat → Bool} {held : Bool} {v : Value} {d : DataW H} {p : List MemPlace}
    (hv : Value.okWide Try.prog W .any b0 22 v) (h : DataW.Trod enc Try.prog W base sp held 22 v d p) :
    ∃ a cap l, v = .slice a l.length cap ∧ l.length ≤ cap ∧ cap ≤ maxLen ∧ TusAt W a l ∧ (∀ n ∈ l, (Lit.int .i64 n.c).wf = true) ∧ (a = none → cap = 0) := by
  obtain ⟨a0, len, cap, rfl⟩ := okWide_slice Try.underlying22 hv
  obtain ⟨fuel, hf⟩ := h
  rcases Go.Deep.open_slice Try.underlying22 hf with ⟨hcs, _⟩ | ⟨a, len', cap', m, n, D, Pl, hcs, _, hl, hm, hmm, _, hx⟩
  · simp [Value.cells] at hcs
    obtain ⟨rfl, rfl, rfl⟩ := hcs
    exact ⟨none, 0, [], rfl, Nat.le_refl _, Nat.zero_le _, .inl rfl, by simp, fun _ => rfl⟩
  · simp [Value.cells] at hcs
    obtain ⟨rfl, rfl, rfl⟩ := hcs
    have hlm : len ≤ m := by rw [hmm]; split <;> omega
    rw [tuCells] at hx
    obtain ⟨f, hf2⟩ := Go.Deep.choose_lt (α := Tu) (n := len) (p := fun i q => (W.cell? (a.add (i * 4)) = some (.int .i64 q.f) ∧ W.cell? ((a.add (i * 4)).add 1) = some (.int .i64 q.c) ∧ W.cell? ((a.add (i * 4)).add 2) = some (.int .i64 q.a) ∧ W.cell? ((a.add (i * 4)).add 3) = some (.int .i64 q.n)) ∧ (Lit.int .i64 q.c).wf = true) (fun i hi => by
      obtain ⟨cs', h1, h2⟩ := hx i (by omega)
      obtain ⟨_, hlen, hcell⟩ := World.cells?_some h1
      obtain ⟨q, rfl, hw⟩ := cells_t hlen h2
      refine ⟨q, ⟨?_, ?_, ?_, ?_⟩, hw⟩
      · have := hcell 0 (by omega)
        simpa [Addr.add] using this
      · have := hcell 1 (by omega)
        simpa using this
      · have := hcell 2 (by omega)
        simpa using this
      · have := hcell 3 (by omega)
        simpa using this)
    refine ⟨some a, cap, (List.range len).map f, by simp, by simpa using hl, hm, ?_, ?_, by simp⟩
    · by_cases h0 : len = 0
      · exact .inl (by rw [h0]; rfl)
      · obtain ⟨b, o, s⟩ := a
        have hspot : s = none := by simpa [Addr.add] using World.cell?_spot (hf2 0 (by omega)).1.1
        subst hspot
        refine .inr ⟨b, o, rfl, fun i x hx => ?_⟩
        rw [List.getElem?_map] at hx
        obtain ⟨j, hj, rfl⟩ := Option.map_eq_some_iff.1 hx
        obtain ⟨hi, hj2⟩ := List.getElem?_eq_some_iff.1 hj
        rw [List.getElem_range] at hj2
        subst hj2
        rw [List.length_range] at hi
        obtain ⟨⟨y0, y1, y2, y3⟩, _⟩ := hf2 i hi
        rw [Go.Deep.add_add] at y1 y2 y3
        refine ⟨?_, ?_, ?_, ?_⟩
        · by_cases hi0 : i = 0
          · subst hi0; simpa [Addr.add] using y0
          · have h3 : ¬ i * 4 = 0 := by omega
            simpa [Addr.add, h3] using y0
        · simpa [Addr.add, Nat.add_assoc] using y1
        · simpa [Addr.add, Nat.add_assoc] using y2
        · simpa [Addr.add, Nat.add_assoc] using y3
    · intro q hq
      obtain ⟨i, hi, rfl⟩ := List.mem_map.1 hq
      exact (hf2 i (List.mem_range.1 hi)).2
theorem cb_of {l : List Tu} (h : ∀ n ∈ l, (Lit.int .i64 n.c).wf = true) : CB l := fun t ht => (bounds_i64 (h t ht)).2
end Go.Proofs.Ytabaiklagobimaa
