import Derived.Test.YtkmmmmbnddkcgaaDoorNear
import Derived.Deep.LoopGhost
/-! The reference's Best: all fractions with denominators up to a limit, one after the other. -/
namespace Go.Proofs.YtkmmmmbnddkcgaaDoor
open Go.RowKit QM QB

/-- the boxes: the fraction, the result, the best one so far -/
structure RB (w w1 : World) (bb : Nat) (N D p q : Int) : Prop where
  sz : bb < w1.heap.size
  lo : w.heap.size + 1 < bb
  x0 : w1.cell? ⟨w.heap.size, 0, none⟩ = some (.int .i64 N)
  x1 : w1.cell? ⟨w.heap.size, 1, none⟩ = some (.int .i64 D)
  r0 : w1.cell? ⟨w.heap.size + 1, 0, none⟩ = some (.int .i64 0)
  r1 : w1.cell? ⟨w.heap.size + 1, 1, none⟩ = some (.int .i64 0)
  b0 : w1.cell? ⟨bb, 0, none⟩ = some (.int .i64 p)
  b1 : w1.cell? ⟨bb, 1, none⟩ = some (.int .i64 q)
  e0 : w1.frozen? ⟨w.heap.size + 1, 0, none⟩ = false
  e1 : w1.frozen? ⟨w.heap.size + 1, 1, none⟩ = false
  f0 : w1.frozen? ⟨bb, 0, none⟩ = false
  f1 : w1.frozen? ⟨bb, 1, none⟩ = false
theorem RB.later {w w1 w2 : World} {bb : Nat} {N D p q : Int} (h : RB w w1 bb N D p q) (g : G w1 w2) : RB w w2 bb N D p q := by
  obtain ⟨a, b, c1, c2, c3, c4, c5, c6, d1, d2, d3, d4⟩ := h
  have hz := g.size
  exact ⟨by omega, b, (g.cell (by simp only []; omega)).trans c1, (g.cell (by simp only []; omega)).trans c2, (g.cell (by simp only []; omega)).trans c3, (g.cell (by simp only []; omega)).trans c4,
    (g.cell (by simp only []; omega)).trans c5, (g.cell (by simp only []; omega)).trans c6, (g.frozen (by simp only []; omega)).trans d1, (g.frozen (by simp only []; omega)).trans d2, (g.frozen (by simp only []; omega)).trans d3, (g.frozen (by simp only []; omega)).trans d4⟩
theorem RB.set {w w1 : World} {bb : Nat} {N D p q : Int} (h : RB w w1 bb N D p q) (p' q' : Int) : RB w ((w1.setCell ⟨bb, 0, none⟩ (.int .i64 p')).setCell ⟨bb, 1, none⟩ (.int .i64 q')) bb N D p' q' := by
  obtain ⟨a, b, c1, c2, c3, c4, c5, c6, d1, d2, d3, d4⟩ := h
  have n1 : bb ≠ w.heap.size := by omega
  have n2 : bb ≠ w.heap.size + 1 := by omega
  have n3 := n1.symm
  have n4 := n2.symm
  refine ⟨by simpa using a, b, ?_, ?_, ?_, ?_, ?_, ?_, ?_, ?_, ?_, ?_⟩ <;> simp [go_sem, *]
theorem RB.start {w w1 : World} {N D p q : Int} {t t' s : TypeId} (h : G ((w.alloc (.cells #[.int .i64 N, .int .i64 D] t)).alloc (.cells #[.int .i64 0, .int .i64 0] t')) w1) :
    RB w (w1.alloc (.cells #[.int .i64 p, .int .i64 q] s)) w1.heap.size N D p q := by
  obtain ⟨a1, a2, a3, a4, a5, a6, a7, a8, a9⟩ := two_cells (G.alloc h (.cells #[.int .i64 p, .int .i64 q] s))
  obtain ⟨_, _, _, _, _, _, _, _, z9⟩ := two_cells h
  exact ⟨by simp, z9, a1, a2, a5, a6, by go_cell, by go_cell, a7, a8, by simp [go_sem], by simp [go_sem]⟩

/-- the fraction lies beside N / D -/
def Nb (N D p q : Int) : Prop := -D ≤ N * q - p * D ∧ N * q - p * D ≤ D
theorem mul64 {a c : Int} (h1 : -1073741824 ≤ a) (h2 : a ≤ 1073741824) (h3 : 1 ≤ c) (h4 : c ≤ 64) : -68719476736 ≤ a * c ∧ a * c ≤ 68719476736 := by
  have k : (a * c).natAbs ≤ 1073741824 * 64 := by
    rw [Int.natAbs_mul]; exact Nat.mul_le_mul (by omega) (by omega)
  omega
theorem nb_in {N D p q : Int} (h : Nb N D p q) (h1 : -1073741824 ≤ N) (h2 : N ≤ 1073741824) (d1 : 1 ≤ D) (d2 : D ≤ 1073741824) (h3 : 1 ≤ q) (h4 : q ≤ 64) :
    (-1099511627776 ≤ p * D ∧ p * D ≤ 1099511627776) ∧ -1099511627776 ≤ p ∧ p ≤ 1099511627776 := by
  have m := @mul64 N q h1 h2 h3 h4
  unfold Nb at h
  have b : -1099511627776 ≤ p * D ∧ p * D ≤ 1099511627776 := by omega
  refine ⟨b, ?_⟩
  have k : p.natAbs ≤ (p * D).natAbs := by
    rw [Int.natAbs_mul]; exact Nat.le_mul_of_pos_right _ (by omega)
  omega
theorem nb_cand {N D j : Int} (hD : 1 ≤ D) (i : Int) (hi : i = 0 ∨ i = 1) : Nb N D (N * j / D + i) j := by
  obtain ⟨f1, f2⟩ := @floor_lt (N * j) D hD
  unfold Nb
  generalize N * j / D = n at *
  rcases hi with rfl | rfl
  · have : (n + 0) * D = n * D := by rw [Int.add_zero]
    have e : (n + 1) * D = n * D + D := by rw [Int.add_mul, Int.one_mul]
    omega
  · have e : (n + 1) * D = n * D + D := by rw [Int.add_mul, Int.one_mul]
    omega
/-- after i of the two fractions with the denominator j: p', q' from p, q -/
def Two (N D n j p q i p' q' : Int) : Prop := (i = 0 ∧ p' = p ∧ q' = q) ∨ (i = 1 ∧ p' = up1 N D p q n j ∧ q' = up2 N D p q n j) ∨
  (i = 2 ∧ ∃ p1 q1 : Int, p1 = up1 N D p q n j ∧ q1 = up2 N D p q n j ∧ p' = up1 N D p1 q1 (n + 1) j ∧ q' = up2 N D p1 q1 (n + 1) j)
theorem two_next {N D n j p q i p' q' : Int} (h : Two N D n j p q i p' q') (hi : i = 0 ∨ i = 1) : Two N D n j p q (i + 1) (up1 N D p' q' (n + i) j) (up2 N D p' q' (n + i) j) := by
  rcases h with ⟨rfl, rfl, rfl⟩ | ⟨rfl, h1, h2⟩ | ⟨rfl, _⟩
  · exact .inr (.inl ⟨rfl, by rw [Int.add_zero], by rw [Int.add_zero]⟩)
  · exact .inr (.inr ⟨rfl, p', q', h1, h2, rfl, rfl⟩)
  · omega

def IsRB (N D m : Int) (w : World) (e : Ending) (w' : World) : Prop := ∃ P Q : Int, IsBest N D m P Q ∧ e = .returned (.agg #[.int .i64 (oN P Q), .int .i64 (oD P Q)]) ∧ G w w'

set_option maxRecDepth 20000 in
set_option maxHeartbeats 3200000 in
theorem rBest_any (N D m : Int) (w : World) (n1 : -1073741824 ≤ N) (n2 : N ≤ 1073741824) (d1 : 1 ≤ D) (d2 : D ≤ 1073741824) (m1 : 1 ≤ m) (m2 : m ≤ 60) :
    Calls Tryd.prog 38 #[.agg #[.int .i64 N, .int .i64 D], .int .i64 m] w (IsRB N D m w) := by
  go_enter Tryd.func38, Tryd.ntmps38
  go_wp2_with fail
  refine (rFloor_any N D _ (by omega) (by omega) (by omega) (by omega)).mono ?_
  rintro e w1 ⟨rfl, hG1⟩
  have s0 := @st_start N D
  have nb0 : Nb N D (N / D) 1 := by
    have := @nb_cand N D 1 d1 0 (.inl rfl)
    rw [Int.mul_one, Int.add_zero] at this
    exact this
  have R0 := @RB.start w w1 N D (N / D) 1 _ _ 28 hG1
  have gw0 : G w (w1.alloc (.cells #[.int .i64 (N / D), .int .i64 1] 28)) := G.trans (by (repeat' (first | (with_reducible exact G.refl _) | (with_reducible assumption) | (with_reducible refine G.drewN ?_ _) | (with_reducible refine G.drew ?_) | (with_reducible refine G.alloc ?_ _) | (with_reducible refine G.setCell ?_ (by first | (with_reducible exact Nat.le_refl _) | (simp; done) | (simp; omega) | omega) _) | (with_reducible refine G.trans ?_ (by assumption))))) (G.trans hG1 (by (repeat' (first | (with_reducible exact G.refl _) | (with_reducible assumption) | (with_reducible refine G.drewN ?_ _) | (with_reducible refine G.drew ?_) | (with_reducible refine G.alloc ?_ _) | (with_reducible refine G.setCell ?_ (by first | (with_reducible exact Nat.le_refl _) | (simp; done) | (simp; omega) | omega) _) | (with_reducible refine G.trans ?_ (by assumption))))))
  have hR0 := Lib.hid R0
  have hS0 := Lib.hid s0
  have hN0 := Lib.hid nb0
  clear s0 nb0 R0
  go_wp2_with fail
  clear hG1
  generalize hfl : N / D = fl at *
  go_loopg [6] (m.toNat) (fun k d wr => ∃ j p q : Int, d = .int .i64 (j + 1) ∧ k = (m - j).toNat ∧ 0 ≤ j ∧ j ≤ m ∧ q ≤ 64 ∧ Hid (St N D j p q) ∧ Hid (Nb N D p q) ∧ G w wr ∧ RB w wr w1.heap.size N D p q)
  case atStart => exact ⟨0, fl, 1, by simp, by simp, by omega, by omega, by omega, hS0, hN0, by (repeat' (first | (with_reducible exact G.refl _) | (with_reducible assumption) | (with_reducible refine G.drewN ?_ _) | (with_reducible refine G.drew ?_) | (with_reducible refine G.alloc ?_ _) | (with_reducible refine G.setCell ?_ (by first | (with_reducible exact Nat.le_refl _) | (simp; done) | (simp; omega) | omega) _) | (with_reducible refine G.trans ?_ (by assumption)))), hR0.out⟩
  case round =>
    obtain ⟨j, p, q, rfl, hk, j0, jm, q64, hS, hN, hG, hR⟩ := hrel
    have HK := Lib.hid hk
    clear hk hS0 hN0 hR0 gw0
    have q1 := hS.out.1
    obtain ⟨bp, bp2⟩ := nb_in hN.out n1 n2 d1 d2 q1 q64
    have hR1 := hR
    obtain ⟨sz, lo, x0, x1, r0, r1, b0, b1, e0, e1, f0, f1⟩ := hR1
    by_cases hc : j + 1 ≤ m
    · have mj := @mul64 N (j + 1) n1 n2 (by omega) (by omega)
      have qa := IntWalk.i64_in (N * (j + 1)) (by omega)
      go_wp2_with fail
      refine (rFloor_any (N * (j + 1)) D _ (by omega) (by omega) (by omega) (by omega)).mono ?_
      rintro e w3 ⟨rfl, hG3⟩
      have R3 := hR.later (G.trans (by (repeat' (first | (with_reducible exact G.refl _) | (with_reducible assumption) | (with_reducible refine G.drewN ?_ _) | (with_reducible refine G.drew ?_) | (with_reducible refine G.alloc ?_ _) | (with_reducible refine G.setCell ?_ (by first | (with_reducible exact Nat.le_refl _) | (simp; done) | (simp; omega) | omega) _) | (with_reducible refine G.trans ?_ (by assumption))))) hG3)
      have gw3 : G w w3 := hG.trans (G.trans (by (repeat' (first | (with_reducible exact G.refl _) | (with_reducible assumption) | (with_reducible refine G.drewN ?_ _) | (with_reducible refine G.drew ?_) | (with_reducible refine G.alloc ?_ _) | (with_reducible refine G.setCell ?_ (by first | (with_reducible exact Nat.le_refl _) | (simp; done) | (simp; omega) | omega) _) | (with_reducible refine G.trans ?_ (by assumption))))) hG3)
      have nbc : ∀ i : Int, i = 0 ∨ i = 1 → Nb N D (N * (j + 1) / D + i) (j + 1) := fun i hi => nb_cand d1 i hi
      have rnd := fun (p1 q1 p2 q2 : Int) => @st_round N D j p q p1 q1 p2 q2 d1 j0 hS.out
      obtain ⟨n, hn⟩ : ∃ n : Int, N * (j + 1) / D = n := ⟨_, rfl⟩
      rw [hn] at nbc rnd
      rw [hn]
      have bn := (nb_in (nbc 0 (.inl rfl)) n1 n2 d1 d2 (by omega) (by omega)).2
      rw [Int.add_zero] at bn
      have NBC := Lib.hid nbc
      have RND := Lib.hid rnd
      have qb := IntWalk.i64_in (n + 1) (by omega)
      clear nbc rnd hn x0 x1 r0 r1 b0 b1 e0 e1 f0 f1 sz hR qa hG3
      go_wp2_with fail
      go_loopg [8] 2 (fun k kk wr => ∃ i p' q' : Int, kk = .int .i64 (n + i) ∧ k = (2 - i).toNat ∧ 0 ≤ i ∧ i ≤ 2 ∧ 1 ≤ q' ∧ q' ≤ 64 ∧ Hid (Two N D n (j + 1) p q i p' q') ∧ Hid (Nb N D p' q') ∧ G w wr ∧ RB w wr w1.heap.size N D p' q')
      case atStart => exact ⟨0, p, q, by simp, rfl, by omega, by omega, q1, q64, .inl ⟨rfl, rfl, rfl⟩, hN, by (repeat' (first | (with_reducible exact G.refl _) | (with_reducible assumption) | (with_reducible refine G.drewN ?_ _) | (with_reducible refine G.drew ?_) | (with_reducible refine G.alloc ?_ _) | (with_reducible refine G.setCell ?_ (by first | (with_reducible exact Nat.le_refl _) | (simp; done) | (simp; omega) | omega) _) | (with_reducible refine G.trans ?_ (by assumption)))), R3⟩
      case round =>
        obtain ⟨i, p', q', rfl, hk, i0, i2, q1', q64', hT, hN', hG', hR'⟩ := hrel
        have HK2 := Lib.hid hk
        clear hk
        obtain ⟨cp, cp2⟩ := nb_in hN'.out n1 n2 d1 d2 q1' q64'
        have hR1 := hR'
        obtain ⟨sz, lo, x0, x1, r0, r1, b0, b1, e0, e1, f0, f1⟩ := hR1
        by_cases hi : i ≤ 1
        · have nbi := NBC.out i (by omega)
          have mq := @mul64 N q' n1 n2 q1' q64'
          have bk := (nb_in nbi n1 n2 d1 d2 (by omega) (by omega)).1
          have NBI := Lib.hid nbi
          have qc := IntWalk.i64_in (n + i + 1) (by omega)
          have hle : n + i ≤ n + 1 := by omega
          clear nbi
          go_wp2_with fail
          refine (near_any N D (n + i) (j + 1) p' q' _ (by omega) bk (by omega) cp ⟨by omega, by omega⟩ ⟨q1', q64'⟩).mono ?_
          rintro e w4 ⟨rfl, hG4⟩
          have R4 := hR'.later (G.trans (by (repeat' (first | (with_reducible exact G.refl _) | (with_reducible assumption) | (with_reducible refine G.drewN ?_ _) | (with_reducible refine G.drew ?_) | (with_reducible refine G.alloc ?_ _) | (with_reducible refine G.setCell ?_ (by first | (with_reducible exact Nat.le_refl _) | (simp; done) | (simp; omega) | omega) _) | (with_reducible refine G.trans ?_ (by assumption))))) hG4)
          have gw4 : G w w4 := hG'.trans (G.trans (by (repeat' (first | (with_reducible exact G.refl _) | (with_reducible assumption) | (with_reducible refine G.drewN ?_ _) | (with_reducible refine G.drew ?_) | (with_reducible refine G.alloc ?_ _) | (with_reducible refine G.setCell ?_ (by first | (with_reducible exact Nat.le_refl _) | (simp; done) | (simp; omega) | omega) _) | (with_reducible refine G.trans ?_ (by assumption))))) hG4)
          have nx := two_next hT.out (by omega)
          clear x0 x1 r0 r1 b0 b1 e0 e1 f0 f1 sz hR' hG4
          by_cases hnr : Nr N D (n + i) (j + 1) p' q'
          · rw [decide_eq_true hnr]
            rw [up1, up2, if_pos hnr, if_pos hnr] at nx
            have NX := Lib.hid nx
            have R5 := R4.set (n + i) (j + 1)
            clear nx hnr
            obtain ⟨sz, _, x0, x1, r0, r1, b0, b1, e0, e1, f0, f1⟩ := R4
            go_wp2
            go_roundg ((2 - (i + 1)).toNat)
            case measure => have := HK2.out; omega
            case rel => exact ⟨i + 1, n + i, j + 1, by go_num, rfl, by omega, by omega, by omega, by omega, NX, NBI, by (repeat' (first | (with_reducible exact G.refl _) | (with_reducible assumption) | (with_reducible refine G.drewN ?_ _) | (with_reducible refine G.drew ?_) | (with_reducible refine G.alloc ?_ _) | (with_reducible refine G.setCell ?_ (by first | (with_reducible exact Nat.le_refl _) | (simp; done) | (simp; omega) | omega) _) | (with_reducible refine G.trans ?_ (by assumption)))), R5⟩
          · rw [decide_eq_false hnr]
            rw [up1, up2, if_neg hnr, if_neg hnr] at nx
            have NX := Lib.hid nx
            clear nx hnr
            go_wp2
            go_roundg ((2 - (i + 1)).toNat)
            case measure => have := HK2.out; omega
            case rel => exact ⟨i + 1, p', q', by go_num, rfl, by omega, by omega, q1', q64', NX, hN', by (repeat' (first | (with_reducible exact G.refl _) | (with_reducible assumption) | (with_reducible refine G.drewN ?_ _) | (with_reducible refine G.drew ?_) | (with_reducible refine G.alloc ?_ _) | (with_reducible refine G.setCell ?_ (by first | (with_reducible exact Nat.le_refl _) | (simp; done) | (simp; omega) | omega) _) | (with_reducible refine G.trans ?_ (by assumption)))), R4⟩
        · have hle : ¬ n + i ≤ n + 1 := by omega
          have st : St N D (j + 1) p' q' := by
            rcases hT.out with ⟨h, _⟩ | ⟨h, _⟩ | ⟨_, p1, q1, h1, h2, h3, h4⟩
            · omega
            · omega
            · exact RND.out p1 q1 p' q' h1 h2 h3 h4
          have ST := Lib.hid st
          have qd := IntWalk.i64_in (j + 1 + 1) (by omega)
          clear st
          go_wp2
          go_roundg ((m - (j + 1)).toNat)
          case measure => have := HK.out; omega
          case rel => exact ⟨j + 1, p', q', by go_num, rfl, by omega, by omega, q64', ST, hN', by (repeat' (first | (with_reducible exact G.refl _) | (with_reducible assumption) | (with_reducible refine G.drewN ?_ _) | (with_reducible refine G.drew ?_) | (with_reducible refine G.alloc ?_ _) | (with_reducible refine G.setCell ?_ (by first | (with_reducible exact Nat.le_refl _) | (simp; done) | (simp; omega) | omega) _) | (with_reducible refine G.trans ?_ (by assumption)))), hR'⟩
    · have jm2 : j = m := by omega
      have best := st_end m1 (jm2 ▸ hS.out)
      have BEST := Lib.hid best
      clear best jm2
      go_wp2_with fail
      refine (rOf_any p q _ (by omega) (by omega) (by omega) (by omega)).mono ?_
      rintro e w3 ⟨rfl, hG3⟩
      obtain ⟨S1, HS1⟩ : ∃ z : Int, Hid (z = oN p q) := ⟨_, rfl⟩
      obtain ⟨T1, HT1⟩ : ∃ z : Int, Hid (z = oD p q) := ⟨_, rfl⟩
      obtain ⟨E1, HE1⟩ : ∃ z : Int, Hid (z = oE p q) := ⟨_, rfl⟩
      rw [← HS1.out, ← HT1.out, ← HE1.out]
      have R3 := (hR.later (G.trans (by (repeat' (first | (with_reducible exact G.refl _) | (with_reducible assumption) | (with_reducible refine G.drewN ?_ _) | (with_reducible refine G.drew ?_) | (with_reducible refine G.alloc ?_ _) | (with_reducible refine G.setCell ?_ (by first | (with_reducible exact Nat.le_refl _) | (simp; done) | (simp; omega) | omega) _) | (with_reducible refine G.trans ?_ (by assumption))))) hG3)).later (G.alloc (G.refl _) (.cells #[.int .i64 S1, .int .i64 T1] 28))
      have gw3 : G w w3 := hG.trans (G.trans (by (repeat' (first | (with_reducible exact G.refl _) | (with_reducible assumption) | (with_reducible refine G.drewN ?_ _) | (with_reducible refine G.drew ?_) | (with_reducible refine G.alloc ?_ _) | (with_reducible refine G.setCell ?_ (by first | (with_reducible exact Nat.le_refl _) | (simp; done) | (simp; omega) | omega) _) | (with_reducible refine G.trans ?_ (by assumption))))) hG3)
      clear x0 x1 r0 r1 b0 b1 e0 e1 f0 f1 sz hR hG3
      obtain ⟨sz, _, x0, x1, r0, r1, b0, b1, e0, e1, f0, f1⟩ := R3
      go_wp2
      refine bodyPost_ret (v := .agg #[.int .i64 S1, .int .i64 T1]) (by simp [results, Tryd.results38, go_sem, r0, r1]) rfl ⟨p, q, BEST.out, by rw [HS1.out, HT1.out], ?_⟩
      (repeat' (first | (with_reducible exact G.refl _) | (with_reducible assumption) | (with_reducible refine G.drewN ?_ _) | (with_reducible refine G.drew ?_) | (with_reducible refine G.alloc ?_ _) | (with_reducible refine G.setCell ?_ (by first | (with_reducible exact Nat.le_refl _) | (simp; done) | (simp; omega) | omega) _) | (with_reducible refine G.trans ?_ (by assumption))))
end Go.Proofs.YtkmmmmbnddkcgaaDoor
