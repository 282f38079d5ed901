import Derived.Test.YtnakfeamimeioaaDoorC6
/-! The reference's At. -/
namespace Go.Proofs.YtnakfeamimeioaaDoor
open Go.RowKit
attribute [local go_sem] World.cell?_alloc_some

set_option maxRecDepth 100000 in
set_option maxHeartbeats 4000000 in
theorem rAt_any (c p : Int) (w : World) (hc : Cf c) : Calls Tryd.prog 20 #[.int .i64 c, .int .i64 p] w fun e w' => e = .returned (.tuple #[.agg #[.int .i64 (if hasP (mid c + p) then stp (mid c + p) else 0), .int .i64 0, .int .i64 (if hasP (mid c + p) then oct (mid c + p) else 0)], .bool (decide (hasP (mid c + p)))]) ∧ G w w' := by
  have HC := Lib.hid hc
  obtain ⟨m, hm⟩ : ∃ z : Int, Hid (z = mid c) := ⟨_, rfl⟩
  obtain ⟨R, hR⟩ : ∃ z : Value, Hid (z = .tuple #[.agg #[.int .i64 (if hasP (mid c + p) then stp (mid c + p) else 0), .int .i64 0, .int .i64 (if hasP (mid c + p) then oct (mid c + p) else 0)], .bool (decide (hasP (mid c + p)))]) := ⟨_, rfl⟩
  have HRY := Lib.hid (show ∀ s o : Int, (0 ≤ s ∧ s ≤ 6) → (-1 ≤ o ∧ o ≤ 9) → 7 * o + s = m + p → Ok s 0 o → R = .tuple #[.agg #[.int .i64 s, .int .i64 0, .int .i64 o], .bool true] by
    intro s o hs ho e hok
    have e1 : stp (m + p) = s := by rw [← e]; unfold stp; omega
    have e2 : oct (m + p) = o := by rw [← e]; unfold oct; omega
    have hp : hasP (m + p) := ⟨by omega, by rw [e1, e2]; exact hok⟩
    rw [hR.out, ← hm.out, if_pos hp, if_pos hp, decide_eq_true hp, e1, e2])
  have HRN := Lib.hid (show ¬ hasP (m + p) → R = .tuple #[.agg #[.int .i64 0, .int .i64 0, .int .i64 0], .bool false] by
    intro hp
    rw [hR.out, ← hm.out, if_neg hp, if_neg hp, decide_eq_false hp])
  rw [← hR.out]
  have gWB : G w (w.alloc (.cells #[.int .i64 0, .int .i64 0, .int .i64 0] 23)) := by (repeat' (first | (with_reducible exact G.refl _) | (with_reducible refine G.drewN ?_ _) | (with_reducible refine G.drew ?_) | (with_reducible refine G.alloc ?_ _)))
  have bt0 : Hid (G (w.alloc (.cells #[.int .i64 0, .int .i64 0, .int .i64 0] 23)) (w.alloc (.cells #[.int .i64 0, .int .i64 0, .int .i64 0] 23))) := Lib.hid (G.refl _)
  clear hc
  go_enter Tryd.func20, Tryd.ntmps20
  go_wp2_with fail
  go_loopg [6] 11 (fun g x wr => ∃ o : Int, x = .int .i64 o ∧ g = (10 - o).toNat ∧ -1 ≤ o ∧ o ≤ 10 ∧ Hid (¬ (hasP (m + p) ∧ m + p < 7 * o)) ∧ Hid (G (w.alloc (.cells #[.int .i64 0, .int .i64 0, .int .i64 0] 23)) wr))
  case atStart => exact ⟨-1, rfl, rfl, by omega, by omega, Lib.hid (fun k => by have := k.1.1; omega), bt0⟩
  case round =>
    clear bt0
    obtain ⟨o, rfl, hg1, o0, o1, hN1, gr1⟩ := hrel
    have HG1 := Lib.hid hg1
    clear hg1
    by_cases ho : o ≤ 9
    · go_wp2_with fail
      go_loopg [7] 7 (fun g x wr => ∃ s : Int, x = .int .i64 s ∧ g = (7 - s).toNat ∧ 0 ≤ s ∧ s ≤ 7 ∧ Hid (¬ (hasP (m + p) ∧ m + p < 7 * o + s)) ∧ Hid (G (w.alloc (.cells #[.int .i64 0, .int .i64 0, .int .i64 0] 23)) wr))
      case atStart => exact ⟨0, rfl, rfl, by omega, by omega, Lib.hid (fun k => hN1.out ⟨k.1, by have := k.2; omega⟩), gr1⟩
      case round =>
        clear hN1 gr1
        obtain ⟨s, rfl, hg2, s0, s1, hN, gr⟩ := hrel
        have HG2 := Lib.hid hg2
        clear hg2
        by_cases hs : s ≤ 6
        · have I1 : Hid (Inr s 0 o) := Lib.hid ⟨⟨s0, hs⟩, ⟨by decide, by decide⟩, o0, ho⟩
          obtain ⟨t, ht⟩ : ∃ z : Int, Hid (z = 7 * o + s - mid c) := ⟨_, rfl⟩
          by_cases hm1 : t = p
          · have hb : (t == p) = true := by rw [hm1]; simp
            have HE := Lib.hid (show 7 * o + s = m + p by rw [hm.out, ← hm1, ht.out]; omega)
            by_cases hk : Ok s 0 o
            · have HR := Lib.hid (HRY.out s o ⟨s0, hs⟩ ⟨o0, ho⟩ HE.out hk)
              have HK := Lib.hid (decide_eq_true hk)
              clear hk hm1
              go_wp2_with fail
              refine (rPosition_any c s 0 o _ HC.out I1.out).mono ?_
              rintro e w1 ⟨rfl, hG1⟩
              rw [← ht.out]
              obtain ⟨y0, y1, y2⟩ := tri_later hG1
              go_wp2_with fail
              refine (rExists_any s 0 o _).mono ?_
              rintro e w2 ⟨rfl, hG2⟩
              rw [HK.out]
              have g2 := gr.out.trans (G.trans (G.trans (by (repeat' (first | (with_reducible exact G.refl _) | (with_reducible refine G.drewN ?_ _) | (with_reducible refine G.drew ?_) | (with_reducible refine G.alloc ?_ _)))) hG1) hG2)
              obtain ⟨⟨z0, z1, z2⟩, f0, f1, f2⟩ := trif_later g2
              replace y0 := hG2.at y0
              replace y1 := hG2.at y1
              replace y2 := hG2.at y2
              go_wp2_with fail
              refine bodyPost_ret (v := .tuple #[.agg #[.int .i64 s, .int .i64 0, .int .i64 o], .bool true]) (by simp only [results, Tryd.results20]; go_simp) rfl ⟨by rw [HR.out], ?_⟩
              have gfin := gWB.trans g2
              (repeat' (first | (with_reducible exact G.refl _) | (with_reducible assumption) | (with_reducible refine G.drewN ?_ _) | (with_reducible refine G.drew ?_) | (with_reducible refine G.alloc ?_ _) | (with_reducible refine G.setCell ?_ (by first | (with_reducible exact Nat.le_refl _) | (simp; done) | (simp; omega) | omega) _) | (with_reducible refine G.trans ?_ (by assumption))))
            · have HK := Lib.hid (decide_eq_false hk)
              have HN2 := Lib.hid (show ¬ (hasP (m + p) ∧ m + p < 7 * o + (s + 1)) by
                rintro ⟨k1, k2⟩
                refine hk ?_
                have k3 := k1.2
                rw [← HE.out] at k3
                rw [show stp (7 * o + s) = s by unfold stp; omega, show oct (7 * o + s) = o by unfold oct; omega] at k3
                exact k3)
              clear hk hm1
              go_wp2_with fail
              refine (rPosition_any c s 0 o _ HC.out I1.out).mono ?_
              rintro e w1 ⟨rfl, hG1⟩
              rw [← ht.out]
              obtain ⟨y0, y1, y2⟩ := tri_later hG1
              go_wp2_with fail
              refine (rExists_any s 0 o _).mono ?_
              rintro e w2 ⟨rfl, hG2⟩
              rw [HK.out]
              have g2 := Lib.hid (gr.out.trans (G.trans (G.trans (by (repeat' (first | (with_reducible exact G.refl _) | (with_reducible refine G.drewN ?_ _) | (with_reducible refine G.drew ?_) | (with_reducible refine G.alloc ?_ _)))) hG1) hG2))
              go_wp2_with fail
              go_roundg ((7 - (s + 1)).toNat)
              case measure => have := HG2.out; omega
              case rel => exact ⟨s + 1, rfl, rfl, by omega, by omega, HN2, g2⟩
          · have hb : (t == p) = false := beq_false_of_ne hm1
            have HN2 := Lib.hid (show ¬ (hasP (m + p) ∧ m + p < 7 * o + (s + 1)) by
              rintro ⟨k1, k2⟩
              refine hN.out ⟨k1, ?_⟩
              have : m + p ≠ 7 * o + s := fun e => hm1 (by rw [ht.out, ← hm.out]; omega)
              omega)
            clear hm1
            go_wp2_with fail
            refine (rPosition_any c s 0 o _ HC.out I1.out).mono ?_
            rintro e w1 ⟨rfl, hG1⟩
            rw [← ht.out]
            have g2 := Lib.hid (gr.out.trans (G.trans (by (repeat' (first | (with_reducible exact G.refl _) | (with_reducible refine G.drewN ?_ _) | (with_reducible refine G.drew ?_) | (with_reducible refine G.alloc ?_ _)))) hG1))
            go_wp2_with fail
            go_roundg ((7 - (s + 1)).toNat)
            case measure => have := HG2.out; omega
            case rel => exact ⟨s + 1, rfl, rfl, by omega, by omega, HN2, g2⟩
        · have HN2 := Lib.hid (show ¬ (hasP (m + p) ∧ m + p < 7 * (o + 1)) from fun k => hN.out ⟨k.1, by have := k.2; omega⟩)
          go_wp2_with fail
          go_roundg ((10 - (o + 1)).toNat)
          case measure => have := HG1.out; omega
          case rel => exact ⟨o + 1, rfl, rfl, by omega, by omega, HN2, gr⟩
    · have HR := Lib.hid (HRN.out (fun k => hN1.out ⟨k, by have := k.1; omega⟩))
      have g2 := gr1.out
      obtain ⟨⟨z0, z1, z2⟩, f0, f1, f2⟩ := trif_later g2
      go_wp2_with fail
      refine bodyPost_ret (v := .tuple #[.agg #[.int .i64 0, .int .i64 0, .int .i64 0], .bool false]) (by simp only [results, Tryd.results20]; go_simp) rfl ⟨by rw [HR.out], ?_⟩
      have gfin := gWB.trans g2
      (repeat' (first | (with_reducible exact G.refl _) | (with_reducible assumption) | (with_reducible refine G.drewN ?_ _) | (with_reducible refine G.drew ?_) | (with_reducible refine G.alloc ?_ _) | (with_reducible refine G.setCell ?_ (by first | (with_reducible exact Nat.le_refl _) | (simp; done) | (simp; omega) | omega) _) | (with_reducible refine G.trans ?_ (by assumption))))
end Go.Proofs.YtnakfeamimeioaaDoor
