import Derived.Test.YtkooggakngheoaaDoorOps2
import Derived.RangeFuncNested
import Derived.RangeFuncBound
import Derived.RangeFuncCalls
import Derived.RangeFuncLeaves
import Derived.RangeFuncBox
import Derived.Shelf.Abstract
import Derived.Shelf.RegionOpen
import Derived.OwnWalkIn
import Derived.TacticsInMore
import Derived.LoopNIn
import Derived.LoopIn
import Derived.Maps.AppendAt
/-! The library's iterator backward over a slice, at the five alterations; what a round of a loop keeps. -/
namespace Go.Proofs.YtkooggakngheoaaDoor
open Go.RowKit Go.Shelf
attribute [local go_sem] Oper.semAt_some

/-- all blocks below n₀ but b lie as they lay -/
structure Kx (b n₀ : Nat) (A C : World) : Prop where
  os : C.os = A.os
  tape : C.tape = A.tape
  output : C.output = A.output
  size : A.heap.size ≤ C.heap.size
  block : ∀ k, k < n₀ → k ≠ b → C.heap[k]? = A.heap[k]?
theorem Kx.refl (b n₀ : Nat) (A : World) : Kx b n₀ A A := ⟨rfl, rfl, rfl, Nat.le_refl _, fun _ _ _ => rfl⟩
theorem Kx.trans {b n₀ : Nat} {A B C : World} (h : Kx b n₀ A B) (k : Kx b n₀ B C) : Kx b n₀ A C :=
  ⟨k.os.trans h.os, k.tape.trans h.tape, k.output.trans h.output, Nat.le_trans h.size k.size, fun j h1 h2 => (k.block j h1 h2).trans (h.block j h1 h2)⟩
theorem Kx.of_below {b n₀ : Nat} {A C : World} (h : Below n₀ A C) : Kx b n₀ A C := ⟨h.os, h.tape, h.output, h.size, fun k hk _ => h.block k hk⟩
theorem Kx.below {b n₀ m : Nat} {A C : World} (h : Kx b n₀ A C) (h1 : m ≤ b) (h2 : m ≤ n₀) : Below m A C :=
  ⟨h.os, h.tape, h.output, h.size, fun k hk => h.block k (by omega) (by omega)⟩
theorem Kx.cell {b n₀ : Nat} {A C : World} (h : Kx b n₀ A C) {p : Addr} (h1 : p.block < n₀) (h2 : p.block ≠ b) : C.cell? p = A.cell? p := by
  unfold World.cell?; rw [h.block _ h1 h2]
theorem Kx.frozen {b n₀ : Nat} {A C : World} (h : Kx b n₀ A C) {p : Addr} (h1 : p.block < n₀) (h2 : p.block ≠ b) : C.frozen? p = A.frozen? p := by
  unfold World.frozen?; rw [h.block _ h1 h2]
theorem grown_of_G {A C : World} (h : G A C) (row : Option Nat) : A.grownBy C row := ⟨h.os, h.tape, h.output, h.size, fun k hk _ => h.block k hk⟩
theorem keeps_of_G {A C : World} (h : G A C) : KeepsOthers A C := ⟨h.size, fun k _ hk _ => (h.block k (Array.getElem?_eq_some_iff.1 hk).1).trans hk⟩
theorem kx_b {b : Nat} {w : World} (W : World) (l : Nat) (o o' : Obj) (hl : w.heap.size ≤ l) (h : W.heap[l]? = some o) (_ : o.isCells = false) (_ : o.isWalk = false) : Kx b w.heap.size W (W.putObj l o') := by
  have g := grownBy_putObj' W l o'
  exact ⟨g.os, g.tape, g.output, g.size, fun k hk _ => g.block k (by have := (Array.getElem?_eq_some_iff.1 h).1; omega) (by intro e; cases e; omega)⟩
theorem ownFrom_kx {β : Type} {b n₀ B : Nat} {w₀ : World} (hn : n₀ ≤ w₀.heap.size) (hB : n₀ ≤ B) : OwnFrom B (fun (_ : β) W => Kx b n₀ w₀ W) :=
  fun _ W W' _ hs hg hr => hs.trans ⟨hg.os, hg.tape, hg.output, hg.size, fun k hk _ => hg.block k (by have := hs.size; omega) (by intro e; have := (hr k e.symm).1; omega)⟩

/-- 'out = append(out, ..)' where the box b lies below the row's base -/
theorem appended3 {W w1 : World} {n₀ B : Nat} {t e : TypeId} {size : Nat} {v v' : Value} {k m : Nat} {xs ys : List Value} {tmp : Obj}
    (hv : Boxed W B t v) (hte : t ≠ e) (hrow : W.ownsRow n₀ e size v k xs) (hn₀ : n₀ ≤ W.heap.size)
    (hown' : w1.ownsRow n₀ e size v' m ys) (hgrow : (W.alloc tmp).grownBy w1 v.ownBlock) :
    Boxed w1 B t v ∧ Boxed (w1.setCell ⟨B, 0, none⟩ v') B t v' ∧ (w1.setCell ⟨B, 0, none⟩ v').ownsRow n₀ e size v' m ys ∧ KeepsOthers W (w1.setCell ⟨B, 0, none⟩ v') ∧ Kx B n₀ W (w1.setCell ⟨B, 0, none⟩ v') := by
  have hv1 : Boxed w1 B t v := (hv.alloc tmp).kept hgrow (hv.not_row hte hrow)
  refine ⟨hv1, hv1.set v', hown'.kept (grownBy_setCell' w1 B v') (.inr (hv1.not_row hte hown').symm), ?_, ?_⟩
  · refine ((KeepsOthers.alloc W tmp).trans (KeepsOthers.of_grownBy hgrow fun j o ej hj => ?_)).trans (KeepsOthers.setCell _ _ _)
    rcases (hrow.alloc tmp).2 with ⟨rfl, _⟩ | ⟨g, cap, cur, rfl, _, hgb, _⟩
    · simp [Value.ownBlock] at ej
    · obtain rfl : g = j := by simpa [Value.ownBlock] using ej
      rw [hgb] at hj; cases hj; rfl
  · have b0 : Below n₀ W w1 := ((Below.refl n₀ W).alloc hn₀ tmp).grown hgrow (by simp; omega) fun j ej => by
      rcases hrow.2 with ⟨rfl, _⟩ | ⟨g, cap, cur, rfl, hb, _, _⟩
      · simp [Value.ownBlock] at ej
      · obtain rfl : g = j := by simpa [Value.ownBlock] using ej
        exact hb
    have gs := grownBy_setCell' w1 B v'
    exact ⟨gs.os.trans b0.os, gs.tape.trans b0.tape, gs.output.trans b0.output, Nat.le_trans b0.size gs.size, fun j h1 h2 => by
      by_cases hj : j < w1.heap.size
      · exact (gs.block j hj (by intro e; cases e; exact h2 rfl)).trans (b0.block j h1)
      · have := b0.size; omega⟩

/-- the alterations -/
abbrev Alt := { x : Int // -2 ≤ x ∧ x ≤ 2 }
def alt (j : Nat) : Alt := if j = 0 then ⟨2, by omega⟩ else if j = 1 then ⟨1, by omega⟩ else if j = 2 then ⟨0, by omega⟩ else if j = 3 then ⟨-1, by omega⟩ else ⟨-2, by omega⟩
def alts (j : Nat) : List Alt := (List.range j).map alt
theorem alts_succ (j : Nat) : alts (j + 1) = alts j ++ [alt j] := by simp [alts, List.range_succ]
theorem alts_length (j : Nat) : (alts j).length = j := by simp [alts]
abbrev altsEnc (x : Alt) : Array Value := #[.int .i64 (x.1 + 2), .int .i64 x.1]

theorem enc0 : altsEnc (alt 0) = #[.int .i64 4, .int .i64 2] := rfl
theorem enc1 : altsEnc (alt 1) = #[.int .i64 3, .int .i64 1] := rfl
theorem enc2 : altsEnc (alt 2) = #[.int .i64 2, .int .i64 0] := rfl
theorem enc3 : altsEnc (alt 3) = #[.int .i64 1, .int .i64 (-1)] := rfl
theorem enc4 : altsEnc (alt 4) = #[.int .i64 0, .int .i64 (-2)] := rfl

set_option maxRecDepth 100000 in
set_option maxHeartbeats 2000000 in
/-- the closure: from the last to the first -/
theorem back1_in (F : Fence) (n : Nat) (hF : F.fn 75) (hro : F.round = none) (hn : 1 ≤ n) (l Bs B b n₀ : Nat) (hb : b < n₀) (hbB : b ≠ B) (hs : Bs < n₀) (hsB : Bs ≠ B) (J Jx : List Alt → World → Prop)
    (hY : ∀ pre x W, J pre W → pre.length < 5 → YieldAt F (n - 1) Tryd.prog l (altsEnc x) W fun e W' =>
      (e = .returned (.bool true) ∧ J (pre ++ [x]) W' ∧ Kx B n₀ W W') ∨ (e = .returned (.bool false) ∧ Jx (pre ++ [x]) W'))
    (W : World) (hBs : W.cell? ⟨Bs, 0, none⟩ = some (.slice (some ⟨b, 0, none⟩) 5 5))
    (hc0 : W.cell? ⟨b, 0, none⟩ = some (.int .i64 (-2))) (hc1 : W.cell? ⟨b, 1, none⟩ = some (.int .i64 (-1))) (hc2 : W.cell? ⟨b, 2, none⟩ = some (.int .i64 0)) (hc3 : W.cell? ⟨b, 3, none⟩ = some (.int .i64 1)) (hc4 : W.cell? ⟨b, 4, none⟩ = some (.int .i64 2)) (h0 : J [] W) :
    CallsIn F n Tryd.prog 75 #[.func (.yield l) #[] #[], .pointer (some ⟨Bs, 0, none⟩)] W fun e W' => (∃ v, e = .returned v) ∧
      ((∃ ys, ys = alts 5 ∧ J ys W') ∨ (∃ pre, (∃ k, k ≤ 5 ∧ pre = alts k) ∧ Jx pre W')) := by
  refine callsIn_of_wp Tryd.func75 rfl hF ?_ hro
  simp only [Tryd.ntmps75, List.size_toArray, List.length_cons, List.length_nil, Nat.reduceAdd, Nat.reduceSub, Array.replicate_succ, Array.replicate_zero, List.push_toArray, List.append_toArray, List.nil_append, List.cons_append]
  gi_wp2
  gi_loopw [3] (fun i wr => ∃ k : Nat, k ≤ 5 ∧ i = .int .i64 (4 - (k : Int)) ∧ J (alts k) wr ∧ Kx B n₀ W wr)
    (fun i _ => (intOf i + 1).toNat)
  case atStart => exact ⟨0, Nat.zero_le _, rfl, h0, Kx.refl _ _ _⟩
  case round =>
    obtain ⟨k, hk, rfl, hJs, hnx⟩ := hrel
    have dBs := (hnx.cell (p := ⟨Bs, 0, none⟩) hs hsB).trans hBs
    have d0 := (hnx.cell (p := ⟨b, 0, none⟩) hb hbB).trans hc0
    have d1 := (hnx.cell (p := ⟨b, 1, none⟩) hb hbB).trans hc1
    have d2 := (hnx.cell (p := ⟨b, 2, none⟩) hb hbB).trans hc2
    have d3 := (hnx.cell (p := ⟨b, 3, none⟩) hb hbB).trans hc3
    have d4 := (hnx.cell (p := ⟨b, 4, none⟩) hb hbB).trans hc4
    have h6 : k = 5 ∨ k = 0 ∨ k = 1 ∨ k = 2 ∨ k = 3 ∨ k = 4 := by omega
    rcases h6 with rfl | h6
    · gi_wp2
      go_end0
      exact ⟨⟨_, rfl⟩, .inl ⟨_, rfl, hJs⟩⟩
    · rcases h6 with rfl | rfl | rfl | rfl | rfl
      all_goals
        obtain ⟨fn, tmps, assign, body, hy, hR⟩ := hY _ (alt _) wr hJs (by rw [alts_length]; decide)
        rw [← alts_succ] at hR
        first | rw [enc0] at hy | rw [enc1] at hy | rw [enc2] at hy | rw [enc3] at hy | rw [enc4] at hy
        gi_wp2
        refine hR.mono ?_
        rintro e W3 (⟨rfl, hJ3, hk3⟩ | ⟨rfl, hJx3⟩)
        · gi_wp2
          go_roundw
          case rel => exact ⟨_, by decide, rfl, hJ3, hnx.trans hk3⟩
          case measure => simp [intOf]
        · gi_wp2
          refine bodyPost_ret (results_none rfl _ _ _) rfl ?_
          exact ⟨⟨_, rfl⟩, .inr ⟨_, ⟨_, by decide, rfl⟩, hJx3⟩⟩
end Go.Proofs.YtkooggakngheoaaDoor
