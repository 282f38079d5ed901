import Derived.Test.YtabaiklagobimaaRw
import Derived.BigRegion
import Derived.Laws.EntriesVeiled
/-! Tuplets: the closure that keeps the open ones. -/
namespace Go.Proofs.Ytabaiklagobimaa
open Go.RowKit
attribute [local go_sem] World.cell?_alloc_some

/-- what the closure holds: the slice of tuplets and its stack -/
structure St (W0 : World) (bl bs BB : Nat) (vl v : Value) (M : List Int) (wr : World) : Prop where
  g : G W0 wr
  cl : wr.cell? ⟨bl, 0, none⟩ = some vl
  cs : wr.cell? ⟨bs, 0, none⟩ = some v
  fs : wr.frozen? ⟨bs, 0, none⟩ = false
  row : Row inE 3 1 BB wr v M
  o1 : W0.heap.size ≤ bl
  o2 : bl < bs
  o3 : bs < BB
section
variable {W0 wr wr' : World} {bl bs BB : Nat} {vl v : Value} {M : List Int}
theorem St.later (h : St W0 bl bs BB vl v M wr) (g : G wr wr') : St W0 bl bs BB vl v M wr' :=
  ⟨h.g.trans g, g.at h.cl, g.at h.cs, (g.frozen (cell_lt h.cs)).trans h.fs, h.row.later g, h.o1, h.o2, h.o3⟩
theorem St.put (h : St W0 bl bs BB vl v M wr) {v' : Value} {M' : List Int} (hr : Row inE 3 1 BB wr v' M') : St W0 bl bs BB vl v' M' (wr.setCell ⟨bs, 0, none⟩ v') := by
  refine ⟨h.g.setCell (by have := h.o1; have := h.o2; show W0.heap.size ≤ bs; omega) v', ?_, World.cell?_setCell_same _ _ _ h.cs, by simp [go_sem]; exact h.fs, hr.far h.o3 0 v', h.o1, h.o2, h.o3⟩
  rw [World.cell?_setCell_far _ _ _ _ (by have := h.o2; show bs ≠ bl; omega)]
  exact h.cl
theorem St.grown {w2 : World} (h : St W0 bl bs BB vl v M wr) (hg : wr.grownBy w2 v.ownBlock) : G W0 w2 ∧ w2.cell? ⟨bl, 0, none⟩ = some vl ∧ w2.cell? ⟨bs, 0, none⟩ = some v ∧ w2.frozen? ⟨bs, 0, none⟩ = false := by
  have hob : ∀ k, v.ownBlock = some k → bs + 1 ≤ k := fun k hk => by have := h.row.own k hk; have := h.o3; omega
  have hne : ∀ k, k ≤ bs → some k ≠ v.ownBlock := fun k hk e => by have := hob k e.symm; omega
  have b1 := hg.block bl (cell_lt h.cl) (hne _ (by have := h.o2; omega))
  have b2 := hg.block bs (cell_lt h.cs) (hne _ (by omega))
  refine ⟨Below.grown h.g hg h.g.size (fun k hk => by have := hob k hk; have := h.o1; have := h.o2; omega), ?_, ?_, ?_⟩
  · rw [← h.cl]; exact World.cell?_of_block b1
  · rw [← h.cs]; exact World.cell?_of_block b2
  · rw [← h.fs]; exact World.frozen?_of_block b2
/-- while nothing is open, the stack may lie anywhere -/
theorem St.base (h : St W0 bl bs BB vl (.slice none 0 0) [] wr) {B2 : Nat} (hb : bs < B2) : St W0 bl bs B2 vl (.slice none 0 0) [] wr :=
  ⟨h.g, h.cl, h.cs, h.fs, Row.nil _, h.o1, h.o2, hb⟩
end
/-- what a call of the closure leaves of a world -/
def Op (w w' : World) (bs : Nat) (v : Value) : Prop := w.heap.size ≤ w'.heap.size ∧ ∀ k, k < w.heap.size → k ≠ bs → v.ownBlock ≠ some k → w'.heap[k]? = w.heap[k]?
theorem Op.refl (w : World) (bs : Nat) (v : Value) : Op w w bs v := ⟨Nat.le_refl _, fun _ _ _ _ => rfl⟩
theorem Op.g {a b c : World} {bs : Nat} {v : Value} (h : Op a b bs v) (k : G b c) : Op a c bs v :=
  ⟨Nat.le_trans h.1 k.size, fun i hi h1 h2 => (k.block i (Nat.lt_of_lt_of_le hi h.1)).trans (h.2 i hi h1 h2)⟩
theorem Op.put {a b : World} {bs : Nat} {v : Value} (h : Op a b bs v) (u : Value) : Op a (b.setCell ⟨bs, 0, none⟩ u) bs v :=
  ⟨by have := h.1; simp [World.setCell]; exact this, fun i hi h1 h2 => (heap_setCell_other _ _ _ _ (fun e => h1 e)).trans (h.2 i hi h1 h2)⟩
theorem Op.grown {a b c : World} {bs : Nat} {v v' : Value} (h : Op a b bs v) (hg : b.grownBy c v'.ownBlock) (hv : v'.ownBlock = v.ownBlock) : Op a c bs v :=
  ⟨Nat.le_trans h.1 hg.size, fun i hi h1 h2 => (hg.block i (Nat.lt_of_lt_of_le hi h.1) (by rw [hv]; exact fun e => h2 e.symm)).trans (h.2 i hi h1 h2)⟩
theorem Op.cell {a b : World} {bs : Nat} {v : Value} (h : Op a b bs v) {p : Addr} {u : Value} (hp : a.cell? p = some u) (h1 : p.block ≠ bs) (h2 : v.ownBlock ≠ some p.block) : b.cell? p = some u := by
  rw [← hp]
  exact World.cell?_of_block (h.2 _ (cell_lt hp) h1 h2)
/-- the stack, as the program keeps it -/
def stM (s : List Nat) : List Int := (s.map (fun k : Nat => (k : Int))).reverse
theorem stM_cons (k : Nat) (s : List Nat) : stM (k :: s) = stM s ++ [(k : Int)] := by simp [stM]
theorem stM_len (s : List Nat) : (stM s).length = s.length := by simp [stM]
theorem stM_at (k : Nat) (s : List Nat) : (stM (k :: s))[s.length]? = some (k : Int) := by
  rw [stM_cons, List.getElem?_append_right (by rw [stM_len]; exact Nat.le_refl _), stM_len, Nat.sub_self]
  rfl
/-- a row that is not empty lies in a block -/
theorem Row.top {k : Nat} {s : List Nat} {base : Nat} {wr : World} {v : Value} (h : Row inE 3 1 base wr v (stM (k :: s))) :
    ∃ g cap, v = .slice (some ⟨g, 0, none⟩) (s.length + 1) cap ∧ s.length + 1 ≤ cap ∧ wr.cell? ⟨g, s.length, none⟩ = some (.int .i64 k) ∧ Row inE 3 1 base wr (.slice (some ⟨g, 0, none⟩) s.length cap) (stM s) := by
  have h0 := h
  rcases h.cells inE_len with ⟨_, e⟩ | ⟨g, cap, rfl, hg, hc, hm, hx⟩
  · have := congrArg List.length e; rw [stM_len] at this; cases this
  · rw [stM_len, List.length_cons] at hc
    refine ⟨g, cap, by rw [stM_len, List.length_cons], hc, ?_, ?_⟩
    · have := (hx s.length k (stM_at k s) 0 _ rfl).1
      simpa using this
    · rw [stM_cons] at h0
      have := h0.cut inE_len
      rwa [stM_len] at this

theorem opener_any (a : Option Addr) (n c : Nat) (w : World) :
    Calls Try.prog 38 #[.slice a n c] w fun e w' => ∃ bl bs, e = .returned (.func (.func 52) #[] #[.pointer (some ⟨bs, 0, none⟩), .pointer (some ⟨bl, 0, none⟩)]) ∧ St w bl bs (bs + 1) (.slice a n c) (.slice none 0 0) (stM []) w' := by
  go_enter Try.func38, Try.ntmps38
  go_wp2_with fail
  go_ret
  exact ⟨w.heap.size, w.heap.size + 1, by first | rfl | simp, ⟨by (repeat' (first | (with_reducible exact G.refl _) | (with_reducible assumption) | (with_reducible refine G.drewN ?_ _) | (with_reducible refine G.drew ?_) | (with_reducible refine G.alloc ?_ _) | (with_reducible refine G.setCell ?_ (by first | (with_reducible exact Nat.le_refl _) | (simp; done) | (simp; omega) | omega) _) | (with_reducible refine G.trans ?_ (by assumption)))), by go_cell, by go_cell, by simp [go_sem], Row.nil _, Nat.le_refl _, by omega, by omega⟩⟩
end Go.Proofs.Ytabaiklagobimaa
