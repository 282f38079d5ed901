import Derived.Test.YtgepjpbdfjcaaaaDoorS17
import Derived.Test.YtgepjpbdfjcaaaaDoorLaid
/-! Spanners: rows of integers that were made, as slices. -/
namespace Go.Proofs.YtgepjpbdfjcaaaaDoor
open Go.RowKit
attribute [local go_sem] World.cell?_alloc_some
theorem Row.ints {e : TypeId} {base : Nat} {w : World} {v : Value} {l : List Int} (h : Row inE e 1 base w v l) : ∃ a c, v = .slice a l.length c ∧ IntsAt w a l := by
  rcases h.cells inE_len with ⟨rfl, rfl⟩ | ⟨g, cap, rfl, _, _, _, hc⟩
  · exact ⟨none, 0, rfl, .inl rfl⟩
  · refine ⟨_, _, rfl, .inr ⟨g, 0, rfl, fun i n hn => ?_⟩⟩
    have := (hc i n hn 0 _ rfl).1
    simpa using this
theorem IntsAt.hit {w : World} {a : Option Addr} {L : List Int} {i n : Nat} {z : Int} (h : IntsAt w a L) (hz : L[i]? = some z) (hn : L.length = n) : i < n ∧ ∃ b o, a = some ⟨b, o, none⟩ ∧ w.cell? ⟨b, o + i, none⟩ = some (.int .i64 z) := by
  have hi := (List.getElem?_eq_some_iff.1 hz).1
  refine ⟨by omega, ?_⟩
  rcases h with h | ⟨b, o, h, f⟩
  · rw [h] at hi; exact absurd hi (by simp)
  · exact ⟨b, o, h, f i z hz⟩
end Go.Proofs.YtgepjpbdfjcaaaaDoor
