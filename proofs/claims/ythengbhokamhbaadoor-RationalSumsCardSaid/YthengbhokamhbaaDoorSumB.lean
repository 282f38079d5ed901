import Derived.Test.YthengbhokamhbaaDoorSmall
/-! Pairs. -/
namespace Go.Proofs.YthengbhokamhbaaDoor
open Go.RowKit
abbrev Pr := Int × Int
theorem G.at' {a b : World} (h : G a b) {p : Addr} {v : Value} (hp : a.cell? p = some v) : b.cell? p = some v := by
  refine (h.cell ?_).trans hp
  unfold World.cell? at hp
  by_cases c : p.block < a.heap.size
  · exact c
  · rw [Array.getElem?_eq_none (by omega)] at hp; cases hp
end Go.Proofs.YthengbhokamhbaaDoor
