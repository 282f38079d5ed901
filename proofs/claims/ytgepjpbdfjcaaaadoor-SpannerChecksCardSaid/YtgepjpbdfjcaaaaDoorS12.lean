import Derived.Test.YtgepjpbdfjcaaaaDoorS9
import Derived.Test.YtgepjpbdfjcaaaaDoorS10
/-! Spanners: the reference's Check. -/
namespace Go.Proofs.YtgepjpbdfjcaaaaDoor
open Go.RowKit
attribute [local go_sem] World.cell?_alloc_some

theorem any_go {l : List Sp} {j : Nat} {x y : Sp} (h : l[j]? = some y) (h0 : ∀ z ∈ l.take j, ¬ Cnf x z) (h1 : ¬ Cnf x y) : ∀ z ∈ l.take (j + 1), ¬ Cnf x z := fun z hz => by
  rw [take_one h] at hz
  rcases List.mem_append.1 hz with hz | hz
  · exact h0 z hz
  · obtain rfl : z = y := by simpa using hz
    exact h1
theorem any_no {l : List Sp} {x : Sp} (h0 : ∀ z ∈ l, ¬ Cnf x z) : l.any (fun y => decide (Cnf y x)) = false := by
  rw [List.any_eq_false]
  intro z hz h
  exact h0 z hz (of_decide_eq_true h).symm
theorem any_yes {l : List Sp} {i j : Nat} {x y : Sp} (hj : j < i) (h : l[j]? = some y) (h1 : Cnf x y) : (l.take i).any (fun y => decide (Cnf y x)) = true := by
  rw [List.any_eq_true]
  exact ⟨y, List.mem_of_getElem? (i := j) (by rw [List.getElem?_take, if_pos hj]; exact h), decide_eq_true h1.symm⟩

set_option maxRecDepth 100000 in
set_option maxHeartbeats 12800000 in
theorem rCheck_any (a : Option Addr) (l : List Sp) (n c : Nat) (w : World) (hn : l.length = n) (hm : n ≤ 5000) (h1 : SpsAt w a l) :
    Calls Tryd.prog 24 #[.slice a n c] w fun e w' => e = .returned (.tuple #[.int .i64 (ckS l).1, .int .i64 (ckS l).2]) ∧ G w w' := by
  subst hn
  have H1 := Lib.hid h1
  clear h1
  obtain ⟨X, hX⟩ : ∃ z : Int, Hid (z = (ckS l).1) := ⟨_, rfl⟩
  obtain ⟨Y, hY⟩ : ∃ z : Int, Hid (z = (ckS l).2) := ⟨_, rfl⟩
  rw [← hX.out, ← hY.out]
  by_cases hl : (l.length : Int) ≤ 4096
  rotate_left
  · have HX := Lib.hid (show X = 4096 by rw [hX.out]; unfold ckS; rw [if_neg (by omega)])
    have HY := Lib.hid (show Y = 9 by rw [hY.out]; unfold ckS; rw [if_neg (by omega)])
    go_enter Tryd.func24, Tryd.ntmps24
    go_wp2_with fail
    go_returns
    exact ⟨by rw [HX.out, HY.out]; first | done | rfl, by (repeat' (first | (with_reducible exact G.refl _) | (with_reducible assumption) | (with_reducible refine G.drewN ?_ _) | (with_reducible refine G.drew ?_) | (with_reducible refine G.alloc ?_ _) | (with_reducible refine G.setCell ?_ (by first | (with_reducible exact Nat.le_refl _) | (simp; done) | (simp; omega) | omega) _) | (with_reducible refine G.trans ?_ (by assumption))))⟩
  have HS := Lib.hid (show ckS l = ckR [] l by unfold ckS; rw [if_pos (by omega)])
  go_enter Tryd.func24, Tryd.ntmps24
  go_wp2_with fail
  go_loopg [4] l.length (fun q k wr => ∃ i : Nat, k = .int .i64 i ∧ q = l.length - i ∧ i ≤ l.length ∧ Hid (ckS l = ckR (l.take i) (l.drop i)) ∧ G w wr)
  case atStart => exact ⟨0, rfl, rfl, by omega, Lib.hid (by rw [HS.out]; simp), by (repeat' (first | (with_reducible exact G.refl _) | (with_reducible assumption) | (with_reducible refine G.drewN ?_ _) | (with_reducible refine G.drew ?_) | (with_reducible refine G.alloc ?_ _) | (with_reducible refine G.setCell ?_ (by first | (with_reducible exact Nat.le_refl _) | (simp; done) | (simp; omega) | omega) _) | (with_reducible refine G.trans ?_ (by assumption))))⟩
  case round =>
    obtain ⟨i, rfl, hq, hi, hN, gr⟩ := hrel
    have HQ := Lib.hid hq
    clear hq
    by_cases hin : i < l.length
    · obtain ⟨x, hp⟩ : ∃ z, l[i]? = some z := ⟨l[i], List.getElem?_eq_getElem hin⟩
      rcases H1.out with hz | ⟨b0, of, rfl, fc⟩
      · rw [hz] at hin; exact absurd hin (by simp)
      have FC := Lib.hid fc
      obtain ⟨x0, x1, x2, x3, x4, x5, x6, x7, x8⟩ := (fc i _ hp).later gr
      have HP := Lib.hid hp
      have b1 : (0 : Int) ≤ (i : Int) := by omega
      have b2 : (i : Int) < (l.length : Int) := by omega
      have q1 := IntWalk.i64_in ((i : Int) + 1) (by omega)
      clear fc hp
      go_wp2_with fail
      refine (rProper_any x _).mono ?_
      rintro e w1 ⟨rfl, hG1⟩
      obtain ⟨E, hE⟩ : ∃ z : Int, Hid (z = prS x) := ⟨_, rfl⟩
      rw [← hE.out]
      by_cases hE0 : E = 0
      rotate_left
      · have HX := Lib.hid (show X = (i : Int) by rw [hX.out, hN.out, ckR_bad HP.out (by rw [← hE.out]; exact hE0)])
        have HY := Lib.hid (show Y = E by rw [hY.out, hN.out, ckR_bad HP.out (by rw [← hE.out]; exact hE0), hE.out])
        have e3 : (E == 0) = false := beq_false_of_ne hE0
        have e4 : (E != 0) = true := by simp [bne, e3]
        clear hE0
        go_wp2_with fail
        go_returns
        exact ⟨by rw [HX.out, HY.out]; first | done | rfl, by (repeat' (first | (with_reducible exact G.refl _) | (with_reducible assumption) | (with_reducible refine G.drewN ?_ _) | (with_reducible refine G.drew ?_) | (with_reducible refine G.alloc ?_ _) | (with_reducible refine G.setCell ?_ (by first | (with_reducible exact Nat.le_refl _) | (simp; done) | (simp; omega) | omega) _) | (with_reducible refine G.trans ?_ (by assumption))))⟩
      have HE := Lib.hid (show prS x = 0 by rw [← hE.out]; exact hE0)
      rw [hE0]
      clear hE0
      have gi : G w w1 := by (repeat' (first | (with_reducible exact G.refl _) | (with_reducible assumption) | (with_reducible refine G.drewN ?_ _) | (with_reducible refine G.drew ?_) | (with_reducible refine G.alloc ?_ _) | (with_reducible refine G.setCell ?_ (by first | (with_reducible exact Nat.le_refl _) | (simp; done) | (simp; omega) | omega) _) | (with_reducible refine G.trans ?_ (by assumption))))
      go_wp2_with fail
      go_loopg [6] i (fun q2 k2 wr2 => ∃ j : Nat, k2 = .int .i64 j ∧ q2 = i - j ∧ j ≤ i ∧ Hid (∀ z ∈ l.take j, ¬ Cnf x z) ∧ G w wr2)
      case atStart => exact ⟨0, rfl, rfl, by omega, Lib.hid (by simp), by (repeat' (first | (with_reducible exact G.refl _) | (with_reducible assumption) | (with_reducible refine G.drewN ?_ _) | (with_reducible refine G.drew ?_) | (with_reducible refine G.alloc ?_ _) | (with_reducible refine G.setCell ?_ (by first | (with_reducible exact Nat.le_refl _) | (simp; done) | (simp; omega) | omega) _) | (with_reducible refine G.trans ?_ (by assumption))))⟩
      case round =>
        obtain ⟨j, rfl, hq2, hj, hN2, gr2⟩ := hrel
        have HQ2 := Lib.hid hq2
        clear hq2
        by_cases hjn : j < i
        · obtain ⟨y, hy⟩ : ∃ z, l[j]? = some z := ⟨l[j]'(by omega), List.getElem?_eq_getElem (by omega)⟩
          clear x0 x1 x2 x3 x4 x5 x6 x7 x8
          obtain ⟨x0, x1, x2, x3, x4, x5, x6, x7, x8⟩ := (FC.out i _ HP.out).later gr2
          obtain ⟨y0, y1, y2, y3, y4, y5, y6, y7, y8⟩ := (FC.out j _ hy).later gr2
          have HY0 := Lib.hid hy
          have c1 : (0 : Int) ≤ (j : Int) := by omega
          have c2 : (j : Int) < (i : Int) := by omega
          have c3 : (j : Int) < (l.length : Int) := by omega
          have q2 := IntWalk.i64_in ((j : Int) + 1) (by omega)
          have HJ := Lib.hid hjn
          clear hy
          go_wp2_with fail
          go_region_held3 (fun w' => w'.cell? ⟨b0, of + i * 9, none⟩ = some (.int .i64 x.k) ∧ w'.cell? ⟨b0, of + i * 9 + 1, none⟩ = some (.int .i64 x.f.m) ∧ w'.cell? ⟨b0, of + i * 9 + 2, none⟩ = some (.int .i64 x.f.a) ∧ w'.cell? ⟨b0, of + i * 9 + 3, none⟩ = some (.int .i64 x.f.s) ∧ w'.cell? ⟨b0, of + i * 9 + 4, none⟩ = some (.int .i64 x.f.v) ∧ w'.cell? ⟨b0, of + i * 9 + 5, none⟩ = some (.int .i64 x.t.m) ∧ w'.cell? ⟨b0, of + i * 9 + 6, none⟩ = some (.int .i64 x.t.a) ∧ w'.cell? ⟨b0, of + i * 9 + 7, none⟩ = some (.int .i64 x.t.s) ∧ w'.cell? ⟨b0, of + i * 9 + 8, none⟩ = some (.int .i64 x.t.v) ∧ w'.cell? ⟨b0, of + j * 9, none⟩ = some (.int .i64 y.k) ∧ w'.cell? ⟨b0, of + j * 9 + 1, none⟩ = some (.int .i64 y.f.m) ∧ w'.cell? ⟨b0, of + j * 9 + 2, none⟩ = some (.int .i64 y.f.a) ∧ w'.cell? ⟨b0, of + j * 9 + 3, none⟩ = some (.int .i64 y.f.s) ∧ w'.cell? ⟨b0, of + j * 9 + 4, none⟩ = some (.int .i64 y.f.v) ∧ w'.cell? ⟨b0, of + j * 9 + 5, none⟩ = some (.int .i64 y.t.m) ∧ w'.cell? ⟨b0, of + j * 9 + 6, none⟩ = some (.int .i64 y.t.a) ∧ w'.cell? ⟨b0, of + j * 9 + 7, none⟩ = some (.int .i64 y.t.s) ∧ w'.cell? ⟨b0, of + j * 9 + 8, none⟩ = some (.int .i64 y.t.v))
            (first | (with_reducible assumption) | ((try dsimp only); (repeat' (with_reducible apply And.intro)) <;> go_simp))
            ((go_at_call 20; refine (rConflict_any x y _).mono ?_; rintro e w9 ⟨rfl, hG9⟩; have gq : G wr w9 := G.trans (by (repeat' (first | (with_reducible exact G.refl _) | (with_reducible refine G.drewN ?_ _) | (with_reducible refine G.drew ?_) | (with_reducible refine G.alloc ?_ _)))) hG9; clear x0 x1 x2 x3 x4 x5 x6 x7 x8 y0 y1 y2 y3 y4 y5 y6 y7 y8; obtain ⟨x0, x1, x2, x3, x4, x5, x6, x7, x8⟩ := (FC.out i _ HP.out).later (gr2.trans gq); obtain ⟨y0, y1, y2, y3, y4, y5, y6, y7, y8⟩ := (FC.out j _ HY0.out).later (gr2.trans gq)))
          all_goals
            by_cases hc : Cnf x y
            · rw [decide_eq_true hc]
              have HX := Lib.hid (show X = (i : Int) by rw [hX.out, hN.out, ckR_hit HP.out HE.out (any_yes HJ.out HY0.out hc)])
              have HY := Lib.hid (show Y = 26 by rw [hY.out, hN.out, ckR_hit HP.out HE.out (any_yes HJ.out HY0.out hc)])
              clear hc
              go_wp2_with fail
              go_returns
              exact ⟨by rw [HX.out, HY.out]; first | done | rfl, by (repeat' (first | (with_reducible exact G.refl _) | (with_reducible assumption) | (with_reducible refine G.drewN ?_ _) | (with_reducible refine G.drew ?_) | (with_reducible refine G.alloc ?_ _) | (with_reducible refine G.setCell ?_ (by first | (with_reducible exact Nat.le_refl _) | (simp; done) | (simp; omega) | omega) _) | (with_reducible refine G.trans ?_ (by assumption))))⟩
            · rw [decide_eq_false hc]
              have HC := Lib.hid hc
              clear hc
              go_wp2_with fail
              go_roundg (i - (j + 1))
              case measure => have := HQ2.out; have := HJ.out; omega
              case rel => exact ⟨j + 1, by go_num, rfl, by have := HJ.out; omega, Lib.hid (any_go HY0.out hN2.out HC.out), by (repeat' (first | (with_reducible exact G.refl _) | (with_reducible assumption) | (with_reducible refine G.drewN ?_ _) | (with_reducible refine G.drew ?_) | (with_reducible refine G.alloc ?_ _) | (with_reducible refine G.setCell ?_ (by first | (with_reducible exact Nat.le_refl _) | (simp; done) | (simp; omega) | omega) _) | (with_reducible refine G.trans ?_ (by assumption))))⟩
        · have hjj : j = i := by omega
          subst hjj
          have HN := Lib.hid (hN.out.trans (ckR_go HP.out HE.out (any_no hN2.out)))
          go_wp2_with fail
          go_roundg (l.length - (j + 1))
          case measure => have := HQ.out; omega
          case rel => exact ⟨j + 1, by go_num, rfl, by omega, HN, by (repeat' (first | (with_reducible exact G.refl _) | (with_reducible assumption) | (with_reducible refine G.drewN ?_ _) | (with_reducible refine G.drew ?_) | (with_reducible refine G.alloc ?_ _) | (with_reducible refine G.setCell ?_ (by first | (with_reducible exact Nat.le_refl _) | (simp; done) | (simp; omega) | omega) _) | (with_reducible refine G.trans ?_ (by assumption))))⟩
    · have hii : i = l.length := by omega
      subst hii
      have HX := Lib.hid (show X = -1 by rw [hX.out, hN.out, List.drop_length]; rfl)
      have HY := Lib.hid (show Y = 0 by rw [hY.out, hN.out, List.drop_length]; rfl)
      go_wp2_with fail
      go_returns
      exact ⟨by rw [HX.out, HY.out]; first | done | rfl, by (repeat' (first | (with_reducible exact G.refl _) | (with_reducible assumption) | (with_reducible refine G.drewN ?_ _) | (with_reducible refine G.drew ?_) | (with_reducible refine G.alloc ?_ _) | (with_reducible refine G.setCell ?_ (by first | (with_reducible exact Nat.le_refl _) | (simp; done) | (simp; omega) | omega) _) | (with_reducible refine G.trans ?_ (by assumption))))⟩
end Go.Proofs.YtgepjpbdfjcaaaaDoor
