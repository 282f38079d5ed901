import Derived.Test.YtgepjpbdfjcaaaaDoorS1
/-! Spanners: slices of spans. -/
namespace Go.Proofs.YtgepjpbdfjcaaaaDoor
open Go.RowKit
attribute [local go_sem] World.cell?_alloc_some

/-- nine cells of a span -/
def S9 (w : World) (b o : Nat) (x : Sp) : Prop :=
  w.cell? ⟨b, o, none⟩ = some (.int .i64 x.k) ∧ w.cell? ⟨b, o + 1, none⟩ = some (.int .i64 x.f.m) ∧ w.cell? ⟨b, o + 2, none⟩ = some (.int .i64 x.f.a) ∧ w.cell? ⟨b, o + 3, none⟩ = some (.int .i64 x.f.s) ∧ w.cell? ⟨b, o + 4, none⟩ = some (.int .i64 x.f.v) ∧
  w.cell? ⟨b, o + 5, none⟩ = some (.int .i64 x.t.m) ∧ w.cell? ⟨b, o + 6, none⟩ = some (.int .i64 x.t.a) ∧ w.cell? ⟨b, o + 7, none⟩ = some (.int .i64 x.t.s) ∧ w.cell? ⟨b, o + 8, none⟩ = some (.int .i64 x.t.v)
theorem S9.later {w w' : World} {b o : Nat} {x : Sp} (h : S9 w b o x) (g : G w w') : S9 w' b o x :=
  ⟨g.at h.1, g.at h.2.1, g.at h.2.2.1, g.at h.2.2.2.1, g.at h.2.2.2.2.1, g.at h.2.2.2.2.2.1, g.at h.2.2.2.2.2.2.1, g.at h.2.2.2.2.2.2.2.1, g.at h.2.2.2.2.2.2.2.2⟩
/-- the spans of a slice lie in a world -/
def SpsAt (w : World) (a : Option Addr) (l : List Sp) : Prop :=
  l = [] ∨ ∃ b o, a = some ⟨b, o, none⟩ ∧ ∀ (i : Nat) (x : Sp), l[i]? = some x → S9 w b (o + i * 9) x
theorem SpsAt.later {w w' : World} {a : Option Addr} {l : List Sp} (h : SpsAt w a l) (g : G w w') : SpsAt w' a l := by
  rcases h with h | ⟨b, o, h, k⟩
  · exact .inl h
  · exact .inr ⟨b, o, h, fun i x hx => (k i x hx).later g⟩
theorem SpsAt.take {w : World} {a : Option Addr} {l : List Sp} (h : SpsAt w a l) (k : Nat) : SpsAt w a (l.take k) := by
  rcases h with h | ⟨b, o, h, f⟩
  · exact .inl (by rw [h]; simp)
  · exact .inr ⟨b, o, h, fun i x hx => f i x (take_at hx)⟩
end Go.Proofs.YtgepjpbdfjcaaaaDoor
