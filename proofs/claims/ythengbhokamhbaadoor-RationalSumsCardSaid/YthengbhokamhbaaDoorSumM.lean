import Derived.Test.YthengbhokamhbaaDoorOps4
import Derived.Test.YthengbhokamhbaaDoorSumB
import Derived.Lib.AppendIntMem
import Derived.Maps.AppendAt
import Derived.Deep.LoopGhost
import Derived.BigRegion
/-! Sums of lists of fractions. -/
namespace Go.Proofs.YthengbhokamhbaaDoor
open Go.RowKit QM
attribute [local go_sem] World.cell?_alloc_some
abbrev S3 := Int × Int × Int
def sA (s : S3) (p : Pr) : Int := s.1 * (p.2 + 1) + p.1 * (s.2.1 + 1)
def sB (s : S3) (p : Pr) : Int := (s.2.1 + 1) * (p.2 + 1)
def st (s : S3) (p : Pr) : S3 := if s.2.2 = 0 then (oN (sA s p) (sB s p), oD (sA s p) (sB s p) - 1, oE (sA s p) (sB s p)) else s
def sumS (l : List Pr) : S3 := l.foldl st (0, 0, 0)
theorem st_stuck {s : S3} (h : s.2.2 ≠ 0) : ∀ l : List Pr, l.foldl st s = s
  | [] => rfl
  | p :: l => by
    rw [List.foldl_cons, show st s p = s from if_neg h]
    exact st_stuck h l
theorem sum_next {l : List Pr} {i : Nat} {p : Pr} (h : l[i]? = some p) : sumS (l.take (i + 1)) = st (sumS (l.take i)) p := by
  unfold sumS
  rw [List.take_add_one, h, List.foldl_append]
  rfl
theorem sum_stuck {l : List Pr} {i : Nat} (h : (sumS (l.take i)).2.2 ≠ 0) : sumS l = sumS (l.take i) := by
  have e : sumS l = (l.drop i).foldl st (sumS (l.take i)) := by
    unfold sumS
    rw [← List.foldl_append, List.take_append_drop]
  rw [e, st_stuck h]
def Fine (s : S3) : Prop := (s.2.2 = 0 ∧ Cn s.1 s.2.1) ∨ (s.2.2 ≠ 0 ∧ s.1 = 0 ∧ s.2.1 = 0)
theorem st_fine {s : S3} (h : Fine s) (p : Pr) : Fine (st s p) := by
  unfold st
  by_cases e : s.2.2 = 0
  · rw [if_pos e]
    by_cases k : oE (sA s p) (sB s p) = 0
    · exact .inl ⟨k, cn_of _ _⟩
    · exact .inr ⟨k, by simp only [oN, if_neg k], by simp only [oD, if_neg k]; omega⟩
  · rw [if_neg e]; exact h
theorem fold_fine : ∀ (l : List Pr) (s : S3), Fine s → Fine (l.foldl st s)
  | [], _, h => h
  | p :: l, s, h => fold_fine l (st s p) (st_fine h p)
theorem sum_fine (l : List Pr) : Fine (sumS l) := fold_fine l (0, 0, 0) (.inl ⟨rfl, cn_zero⟩)

/-- a block of two cells that may be written -/
def By2 (w : World) (b : Nat) (x y : Int) : Prop := (w.cell? ⟨b, 0, none⟩ = some (.int .i64 x) ∧ w.cell? ⟨b, 1, none⟩ = some (.int .i64 y)) ∧ w.frozen? ⟨b, 0, none⟩ = false ∧ w.frozen? ⟨b, 1, none⟩ = false
theorem cell_lt' {w : World} {p : Addr} {v : Value} (hp : w.cell? p = some v) : p.block < w.heap.size := by
  unfold World.cell? at hp
  by_cases c : p.block < w.heap.size
  · exact c
  · rw [Array.getElem?_eq_none (by omega)] at hp; cases hp
theorem By2.later {a b : World} {n : Nat} {x y : Int} (h : By2 a n x y) (g : G a b) : By2 b n x y := by
  obtain ⟨⟨h0, h1⟩, f0, f1⟩ := h
  have l0 := cell_lt' h0
  exact ⟨⟨g.at' h0, g.at' h1⟩, (g.frozen (p := ⟨n, 0, none⟩) l0).trans f0, (g.frozen (p := ⟨n, 1, none⟩) l0).trans f1⟩
theorem By2.lt {a : World} {n : Nat} {x y : Int} (h : By2 a n x y) : n < a.heap.size := cell_lt' h.1.1
theorem By2.set {W : World} {n : Nat} {x y : Int} (h : By2 W n x y) (u v : Int) : By2 ((W.setCell ⟨n, 0, none⟩ (.int .i64 u)).setCell ⟨n, 1, none⟩ (.int .i64 v)) n u v := by
  obtain ⟨⟨h0, h1⟩, f0, f1⟩ := h
  exact ⟨⟨by simp [go_sem, h0], by simp [go_sem, h1]⟩, by simp [go_sem, f0], by simp [go_sem, f1]⟩
theorem By2.other {W : World} {b n : Nat} {x y : Int} (h : By2 W n x y) (hn : b ≠ n) (j : Nat) (v : Value) : By2 (W.setCell ⟨b, j, none⟩ v) n x y := by
  obtain ⟨⟨h0, h1⟩, f0, f1⟩ := h
  refine ⟨⟨?_, ?_⟩, ?_, ?_⟩
  · rw [World.cell?_setCell_far _ _ _ _ hn]; exact h0
  · rw [World.cell?_setCell_far _ _ _ _ hn]; exact h1
  · simp [go_sem, f0]
  · simp [go_sem, f1]
theorem By2.new (w : World) (x y : Int) (t : TypeId) : By2 (w.alloc (.cells #[.int .i64 x, .int .i64 y] t)) w.heap.size x y :=
  ⟨⟨by go_cell, by go_cell⟩, by simp [go_sem], by simp [go_sem]⟩
theorem By2.read {W : World} {n : Nat} {x y : Int} (h : By2 W n x y) (u v : Int) : (W.setCell ⟨n, 0, none⟩ (.int .i64 u)).cell? ⟨n, 0, none⟩ = some (.int .i64 u) ∧ ((W.setCell ⟨n, 0, none⟩ (.int .i64 u)).setCell ⟨n, 1, none⟩ (.int .i64 v)).cell? ⟨n, 1, none⟩ = some (.int .i64 v) ∧ ((W.setCell ⟨n, 0, none⟩ (.int .i64 u)).setCell ⟨n, 1, none⟩ (.int .i64 v)).cell? ⟨n, 0, none⟩ = some (.int .i64 u) :=
  ⟨World.cell?_setCell_same _ _ _ h.1.1, (h.set u v).1.2, (h.set u v).1.1⟩
/-- fractions that lie in a row -/
def FrsAt (w : World) (a : Option Addr) (l : List Pr) : Prop :=
  l = [] ∨ ∃ b, a = some ⟨b, 0, none⟩ ∧ ∀ (i : Nat) (p : Pr), l[i]? = some p →
    w.cell? ⟨b, i * 2, none⟩ = some (.int .i64 p.1) ∧ w.cell? ⟨b, i * 2 + 1, none⟩ = some (.int .i64 p.2)
theorem FrsAt.later {w w' : World} {a : Option Addr} {l : List Pr} (h : FrsAt w a l) (g : G w w') : FrsAt w' a l := by
  rcases h with h | ⟨b, h, k⟩
  · exact .inl h
  · exact .inr ⟨b, h, fun i x hx => ⟨g.at' (k i x hx).1, g.at' (k i x hx).2⟩⟩

set_option maxRecDepth 100000 in
set_option maxHeartbeats 3200000 in
theorem Sum_any (a : Option Addr) (l : List Pr) (c1 : Nat) (w : World) (hl : l.length ≤ 20) (h1 : FrsAt w a l) (hC : ∀ p ∈ l, Cn p.1 p.2) :
    Calls Tryd.prog 6 #[.slice a l.length c1] w fun e w' => e = .returned (.tuple #[.agg #[.int .i64 (sumS l).1, .int .i64 (sumS l).2.1], .int .i64 (sumS l).2.2]) ∧ G w w' := by
  have H1 := Lib.hid h1
  have HC := Lib.hid hC
  have hk : ((l.length : Int) ≤ 20) := by omega
  clear h1 hC
  obtain ⟨X, hX⟩ : ∃ z : S3, Hid (z = sumS l) := ⟨_, rfl⟩
  rw [← hX.out]
  have b2 := Lib.hid (By2.new w 0 0 27)
  have b4 := Lib.hid (By2.new (w.alloc (.cells #[.int .i64 0, .int .i64 0] 27)) 0 0 27)
  go_enter Tryd.func6, Tryd.ntmps6
  go_wp2_with fail
  generalize hk2 : w.heap.size = k2 at *
  go_loopg [11] l.length (fun k x wr => ∃ (i : Nat) (N O : Int), x = .int .i64 i ∧ k = l.length - i ∧ i ≤ l.length ∧ Hid (sumS (l.take i) = (N, O, 0)) ∧ Hid (Cn N O) ∧ By2 wr k2 0 0 ∧ By2 wr (k2 + 1) N O ∧ G w wr)
  case atStart => exact ⟨0, 0, 0, rfl, by omega, by omega, Lib.hid (by simp [sumS]), Lib.hid cn_zero, b2.out.later (by (repeat' (first | (with_reducible exact G.refl _) | (with_reducible assumption) | (with_reducible refine G.drewN ?_ _) | (with_reducible refine G.drew ?_) | (with_reducible refine G.alloc ?_ _) | (with_reducible refine G.setCell ?_ (by first | (with_reducible exact Nat.le_refl _) | (simp; done) | (simp; omega) | omega) _) | (with_reducible refine G.trans ?_ (by assumption))))), by simpa [hk2] using b4.out, by (repeat' (first | (with_reducible exact G.refl _) | (with_reducible assumption) | (with_reducible refine G.drewN ?_ _) | (with_reducible refine G.drew ?_) | (with_reducible refine G.alloc ?_ _) | (with_reducible refine G.setCell ?_ (by first | (with_reducible exact Nat.le_refl _) | (simp; done) | (simp; omega) | omega) _) | (with_reducible refine G.trans ?_ (by assumption))))⟩
  case round =>
    obtain ⟨i, N, O, rfl, hg, hi, hS, hN, B2, B4, gr⟩ := hrel
    have HG := Lib.hid hg
    clear hg
    by_cases hin : i < l.length
    · obtain ⟨⟨M, U⟩, hp⟩ : ∃ c, l[i]? = some c := ⟨l[i], List.getElem?_eq_getElem hin⟩
      have HMU := Lib.hid (HC.out _ (List.mem_of_getElem? hp))
      rcases H1.out with hz | ⟨bl, rfl, fp⟩
      · rw [hz] at hin; exact absurd hin (by simp)
      obtain ⟨x0', x1'⟩ := fp i _ hp
      have x0 := gr.at' x0'
      have x1 := gr.at' x1'
      have b1 : (0 : Int) ≤ (i : Int) := by omega
      have b2' : (i : Int) < (l.length : Int) := by omega
      have q1 := IntWalk.i64_in ((i : Int) + 1) (by omega)
      obtain ⟨A, HA⟩ : ∃ A : Int, Hid (A = N * (U + 1) + M * (O + 1)) := ⟨_, rfl⟩
      obtain ⟨B, HB⟩ : ∃ B : Int, Hid (B = (O + 1) * (U + 1)) := ⟨_, rfl⟩
      have HS2 := Lib.hid (show sumS (l.take (i + 1)) = (oN A B, oD A B - 1, oE A B) by
        rw [sum_next hp, hS.out]
        unfold st
        rw [if_pos rfl]
        rw [show sA (N, O, 0) (M, U) = A from HA.out.symm, show sB (N, O, 0) (M, U) = B from HB.out.symm])
      have hk3 : k2 ≠ k2 + 1 := by omega
      have hk4 : w.heap.size ≤ k2 + 1 := by omega
      have hk5 : w.heap.size ≤ k2 := by omega
      obtain ⟨⟨u0, u1⟩, f0, f1⟩ := id B4
      clear hp fp x0' x1'
      go_wp2_with fail
      refine (Add_any N O M U _ hN.out HMU.out).mono ?_
      rintro e w2 ⟨rfl, hG⟩
      rw [← HA.out, ← HB.out]
      have g2 : G wr w2 := G.trans (by (repeat' (first | (with_reducible exact G.refl _) | (with_reducible refine G.drewN ?_ _) | (with_reducible refine G.drew ?_) | (with_reducible refine G.alloc ?_ _)))) hG
      have B2b := B2.later g2
      have B4b := B4.later g2
      obtain ⟨⟨v0, v1⟩, e0, e1⟩ := id B4b
      obtain ⟨⟨t0, t1⟩, s0, s1⟩ := id B2b
      obtain ⟨P, hP⟩ : ∃ z : Int, Hid (z = oN A B) := ⟨_, rfl⟩
      obtain ⟨Q, hQ⟩ : ∃ z : Int, Hid (z = oD A B - 1) := ⟨_, rfl⟩
      obtain ⟨E, hE⟩ : ∃ z : Int, Hid (z = oE A B) := ⟨_, rfl⟩
      have HCN := Lib.hid (show Cn P Q by rw [hP.out, hQ.out]; exact cn_of A B)
      rw [← hP.out, ← hQ.out, ← hE.out] at HS2 ⊢
      clear u0 u1 f0 f1 x0 x1
      have gs : G w ((w2.setCell ⟨k2 + 1, 0, none⟩ (.int .i64 P)).setCell ⟨k2 + 1, 1, none⟩ (.int .i64 Q)) := ((gr.trans g2).setCell hk4 _).setCell hk4 _
      by_cases hE0 : E = 0
      · subst hE0
        go_wp2_with fail
        go_roundg (l.length - (i + 1))
        case measure => have := HG.out; omega
        case rel => exact ⟨i + 1, P, Q, by first | rfl | simp, rfl, by omega, HS2, HCN, (B2b.other (by omega) 0 _).other (by omega) 1 _, B4b.set P Q, gs⟩
      · have k1 : (E == 0) = false := beq_false_of_ne hE0
        have k1' : (E != 0) = true := by simp [bne, k1]
        have HX := Lib.hid (show X = (0, 0, E) by
          have hst := sum_stuck (l := l) (i := i + 1) (by rw [HS2.out]; exact hE0)
          rw [hX.out, hst, HS2.out]
          have hz := sum_fine (l.take (i + 1))
          rw [HS2.out] at hz
          rcases hz with ⟨z, _⟩ | ⟨_, z1, z2⟩
          · exact absurd z hE0
          · simp only at z1 z2
            rw [z1, z2])
        clear hE0
        obtain ⟨r0, r1, r2⟩ := ((B2b.other (b := k2 + 1) (by omega) 0 (.int .i64 P)).other (b := k2 + 1) (by omega) 1 (.int .i64 Q)).read 0 0
        have gt := (gs.setCell (p := ⟨k2, 0, none⟩) hk5 (.int .i64 0)).setCell (p := ⟨k2, 1, none⟩) hk5 (.int .i64 0)
        go_wp2_with fail
        refine bodyPost_ret (v := .tuple #[.agg #[.int .i64 0, .int .i64 0], .int .i64 E]) (by simp only [results, Tryd.results6]; go_simp) rfl ⟨by rw [HX.out], gt⟩
    · have hii : i = l.length := by omega
      subst hii
      have HX := Lib.hid (show X = (N, O, 0) by rw [hX.out, ← hS.out, List.take_length])
      have hk5 : w.heap.size ≤ k2 := by omega
      obtain ⟨⟨v0, v1⟩, e0, e1⟩ := id B4
      obtain ⟨⟨t0, t1⟩, s0, s1⟩ := id B2
      obtain ⟨r0, r1, r2⟩ := B2.read N O
      have gt := (gr.setCell (p := ⟨k2, 0, none⟩) hk5 (.int .i64 N)).setCell (p := ⟨k2, 1, none⟩) hk5 (.int .i64 O)
      go_wp2_with fail
      refine bodyPost_ret (v := .tuple #[.agg #[.int .i64 N, .int .i64 O], .int .i64 0]) (by simp only [results, Tryd.results6]; go_simp) rfl ⟨by rw [HX.out], gt⟩
end Go.Proofs.YthengbhokamhbaaDoor
