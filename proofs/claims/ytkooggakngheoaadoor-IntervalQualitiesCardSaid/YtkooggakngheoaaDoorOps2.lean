import Derived.Test.YtkooggakngheoaaDoorOps1
import Derived.Deep.LoopGhost
/-! spelled: the pitch with a number and an alteration, if there is one. -/
namespace Go.Proofs.YtkooggakngheoaaDoor
open Go.RowKit
attribute [local go_sem] World.cell?_alloc_some

/-- the step with a number of semitones above C, or 7 -/
def so (m : Int) : Int := if m = 0 then 0 else if m = 2 then 1 else if m = 4 then 2 else if m = 5 then 3 else if m = 7 then 4 else if m = 9 then 5 else if m = 11 then 6 else 7
/-- what spelled hands back: the pitch and the error -/
def spX (n a x : Int) : Int := if so ((n - a) % 12) = 7 then 0 else ey (so ((n - a) % 12)) a ((n - a + 12) / 12 - 2) x
abbrev spP (n a : Int) : Value := .agg #[.int .i64 (spX n a (so ((n - a) % 12))), .int .i64 (spX n a a), .int .i64 (spX n a ((n - a + 12) / 12 - 2))]
def spE (n a : Int) : Int := if so ((n - a) % 12) = 7 then 18 else er (so ((n - a) % 12)) a ((n - a + 12) / 12 - 2)

theorem so_cases (m : Int) (h0 : 0 ≤ m) (h1 : m ≤ 11) : so m = 7 ∧ (m = 1 ∨ m = 3 ∨ m = 6 ∨ m = 8 ∨ m = 10) ∨ (so m = 0 ∧ m = 0) ∨ (so m = 1 ∧ m = 2) ∨ (so m = 2 ∧ m = 4) ∨ (so m = 3 ∧ m = 5) ∨ (so m = 4 ∧ m = 7) ∨ (so m = 5 ∧ m = 9) ∨ (so m = 6 ∧ m = 11) := by
  unfold so
  repeat' split
  all_goals omega

/-- the table of the steps' numbers by value, indexed -/
theorem idx7 (k : Int) (h0 : 0 ≤ k) (h1 : k ≤ 6) (w : World) :
    (Instr.index 90 (.agg #[.int .i64 0, .int .i64 2, .int .i64 4, .int .i64 5, .int .i64 7, .int .i64 9, .int .i64 11]) (.int .i64 k)).run Tryd.prog w = .ok (.int .i64 (H k)) w := by
  rcases steps7 h0 h1 with rfl | rfl | rfl | rfl | rfl | rfl | rfl <;> simp [Instr.index, run_underlying Tryd.underlying90, asIntOf, go_sem, H]
theorem H_so {m K : Int} (h : (K = 0 ∧ m = 0) ∨ (K = 1 ∧ m = 2) ∨ (K = 2 ∧ m = 4) ∨ (K = 3 ∧ m = 5) ∨ (K = 4 ∧ m = 7) ∨ (K = 5 ∧ m = 9) ∨ (K = 6 ∧ m = 11)) : H K = m := by
  rcases h with ⟨rfl, rfl⟩ | ⟨rfl, rfl⟩ | ⟨rfl, rfl⟩ | ⟨rfl, rfl⟩ | ⟨rfl, rfl⟩ | ⟨rfl, rfl⟩ | ⟨rfl, rfl⟩ <;> rfl
theorem H_ne {m K k : Int} (h : (K = 0 ∧ m = 0) ∨ (K = 1 ∧ m = 2) ∨ (K = 2 ∧ m = 4) ∨ (K = 3 ∧ m = 5) ∨ (K = 4 ∧ m = 7) ∨ (K = 5 ∧ m = 9) ∨ (K = 6 ∧ m = 11)) (h0 : 0 ≤ k) (h1 : k < K) : H k ≠ m := by
  have hk : k = 0 ∨ k = 1 ∨ k = 2 ∨ k = 3 ∨ k = 4 ∨ k = 5 := by omega
  rcases h with ⟨rfl, rfl⟩ | ⟨rfl, rfl⟩ | ⟨rfl, rfl⟩ | ⟨rfl, rfl⟩ | ⟨rfl, rfl⟩ | ⟨rfl, rfl⟩ | ⟨rfl, rfl⟩ <;> rcases hk with rfl | rfl | rfl | rfl | rfl | rfl <;> first | omega | decide

set_option maxRecDepth 20000 in
set_option maxHeartbeats 3200000 in
theorem spelled_found (n a m K : Int) (w : World) (hn : 0 ≤ n) (hn2 : n ≤ 127) (ha : -2 ≤ a) (ha2 : a ≤ 2) (hm : (n - a + 12) % 12 = m) (hK : K ≤ 6) (hK0 : 0 ≤ K) (hKm : (K = 0 ∧ m = 0) ∨ (K = 1 ∧ m = 2) ∨ (K = 2 ∧ m = 4) ∨ (K = 3 ∧ m = 5) ∨ (K = 4 ∧ m = 7) ∨ (K = 5 ∧ m = 9) ∨ (K = 6 ∧ m = 11))
    (hT : Hts w) :
    Calls Tryd.prog 63 #[.int .i64 n, .int .i64 a] w fun e w' => e = .returned (.tuple #[.agg #[.int .i64 (ey K a ((n - a + 12) / 12 - 2) K), .int .i64 (ey K a ((n - a + 12) / 12 - 2) a), .int .i64 (ey K a ((n - a + 12) / 12 - 2) ((n - a + 12) / 12 - 2))], .int .i64 (er K a ((n - a + 12) / 12 - 2))]) ∧ G w w' := by
  have HT := Lib.hid hT
  obtain ⟨x0, x1, x2, x3, x4, x5, x6⟩ := hT
  have HKm := Lib.hid hKm
  have Hm := Lib.hid hm
  clear hKm hm
  go_enter Tryd.func63, Tryd.ntmps63
  go_wp2_with fail
  clear x0 x1 x2 x3 x4 x5 x6
  have b1 : 10 ≤ n - a + 12 := by omega
  have b2 : n - a + 12 ≤ 141 := by omega
  generalize hx : n - a + 12 = x at *
  have q1 : 0 ≤ x / 12 := Int.ediv_nonneg (by omega) (by omega)
  have q2 : x / 12 ≤ 12 := by omega
  go_loopg [14] K.toNat (fun g x wr => ∃ k : Int, x = .int .i64 k ∧ g = (K - k).toNat ∧ 0 ≤ k ∧ k ≤ K ∧ wr = (w.alloc (.cells #[.int .i64 0, .int .i64 0, .int .i64 0] 41)))
  case atStart => exact ⟨0, rfl, by simp, by omega, hK0, rfl⟩
  case round =>
    obtain ⟨k, rfl, hg, hk0, hk, rfl⟩ := hrel
    have hk7 : k = 0 ∨ k = 1 ∨ k = 2 ∨ k = 3 ∨ k = 4 ∨ k = 5 ∨ k = 6 := by omega
    have HG := Lib.hid hg
    have h6 : k ≤ 6 := by omega
    clear hg
    by_cases hkK : k = K
    · subst hkK
      have hc : (H k == x % 12) = true := by rw [Hm.out, H_so HKm.out]; simp
      clear HKm HG Hm
      obtain ⟨V, hV⟩ : ∃ V, Hid (V = Value.tuple #[.agg #[.int .i64 (ey k a (x / 12 - 2) k), .int .i64 (ey k a (x / 12 - 2) a), .int .i64 (ey k a (x / 12 - 2) (x / 12 - 2))], .int .i64 (er k a (x / 12 - 2))]) := ⟨_, rfl⟩
      rcases hk7 with rfl | rfl | rfl | rfl | rfl | rfl | rfl
      all_goals
        have hix := fun w => idx7 _ hk0 h6 w
        simp only [H, Int.reduceEq, if_true, if_false] at hc hix
        go_wp2_with fail
        refine (existing_any _ _ _ _ (HT.out.later (by (repeat' (first | (with_reducible exact G.refl _) | (with_reducible assumption) | (with_reducible refine G.drewN ?_ _) | (with_reducible refine G.drew ?_) | (with_reducible refine G.alloc ?_ _) | (with_reducible refine G.setCell ?_ (by first | (with_reducible exact Nat.le_refl _) | (simp; done) | (simp; omega) | omega) _) | (with_reducible refine G.trans ?_ (by assumption))))))).mono ?_
        rintro e w1 ⟨rfl, hG⟩
        obtain ⟨⟨z0, z1, z2⟩, f0, f1, f2⟩ := trif_later hG
        clear hc hix
        go_wp2_with fail
        refine bodyPost_ret (v := V) (by rw [hV.out]; simp [results, Tryd.results63, go_sem, z0, z1, z2]) rfl ⟨by rw [hV.out, hx], ?_⟩
        (repeat' (first | (with_reducible exact G.refl _) | (with_reducible assumption) | (with_reducible refine G.drewN ?_ _) | (with_reducible refine G.drew ?_) | (with_reducible refine G.alloc ?_ _) | (with_reducible refine G.setCell ?_ (by first | (with_reducible exact Nat.le_refl _) | (simp; done) | (simp; omega) | omega) _) | (with_reducible refine G.trans ?_ (by assumption))))
    · have hc : (H k == x % 12) = false := by rw [Hm.out]; exact beq_false_of_ne (H_ne HKm.out hk0 (by omega))
      clear HKm Hm
      have hk' : k < K := by omega
      obtain ⟨GG, hGG⟩ : ∃ z : Nat, Hid (z = (K - (k + 1)).toNat) := ⟨_, rfl⟩
      rcases hk7 with rfl | rfl | rfl | rfl | rfl | rfl | rfl
      all_goals
        have hix := fun w => idx7 _ hk0 h6 w
        simp only [H, Int.reduceEq, if_true, if_false] at hc hix
        go_wp2_with fail
        go_roundg GG
        case measure => have := HG.out; have := hGG.out; omega
        case rel => exact ⟨_, rfl, by rw [hGG.out]; rfl, by omega, by omega, rfl⟩

set_option maxRecDepth 20000 in
set_option maxHeartbeats 3200000 in
theorem spelled_none (n a m : Int) (w : World) (hn : 0 ≤ n) (hn2 : n ≤ 127) (ha : -2 ≤ a) (ha2 : a ≤ 2) (hm : (n - a + 12) % 12 = m) (hKm : m = 1 ∨ m = 3 ∨ m = 6 ∨ m = 8 ∨ m = 10) (hT : Hts w) :
    Calls Tryd.prog 63 #[.int .i64 n, .int .i64 a] w fun e w' => e = .returned (.tuple #[.agg #[.int .i64 0, .int .i64 0, .int .i64 0], .int .i64 18]) ∧ G w w' := by
  obtain ⟨x0, x1, x2, x3, x4, x5, x6⟩ := hT
  have HKm := Lib.hid hKm
  have Hm := Lib.hid hm
  clear hKm hm
  go_enter Tryd.func63, Tryd.ntmps63
  go_wp2_with fail
  clear x0 x1 x2 x3 x4 x5 x6
  have b1 : 10 ≤ n - a + 12 := by omega
  have b2 : n - a + 12 ≤ 141 := by omega
  generalize hx : n - a + 12 = x at *
  clear hx
  go_loopg [14] 7 (fun g x wr => ∃ k : Int, x = .int .i64 k ∧ g = (7 - k).toNat ∧ 0 ≤ k ∧ k ≤ 7 ∧ wr = (w.alloc (.cells #[.int .i64 0, .int .i64 0, .int .i64 0] 41)))
  case atStart => exact ⟨0, rfl, by simp, by omega, by omega, rfl⟩
  case round =>
    obtain ⟨k, rfl, hg, hk0, hk, rfl⟩ := hrel
    have HG := Lib.hid hg
    clear hg
    by_cases hk7 : k = 7
    · subst hk7
      go_wp2_with fail
      go_returns
      exact ⟨rfl, by (repeat' (first | (with_reducible exact G.refl _) | (with_reducible assumption) | (with_reducible refine G.drewN ?_ _) | (with_reducible refine G.drew ?_) | (with_reducible refine G.alloc ?_ _) | (with_reducible refine G.setCell ?_ (by first | (with_reducible exact Nat.le_refl _) | (simp; done) | (simp; omega) | omega) _) | (with_reducible refine G.trans ?_ (by assumption))))⟩
    · have h6 : k ≤ 6 := by omega
      have hc : (H k == x % 12) = false := by
        rw [Hm.out]
        rcases HKm.out with rfl | rfl | rfl | rfl | rfl <;> rcases steps7 hk0 h6 with rfl | rfl | rfl | rfl | rfl | rfl | rfl <;> rfl
      clear HKm Hm
      obtain ⟨GG, hGG⟩ : ∃ z : Nat, Hid (z = (7 - (k + 1)).toNat) := ⟨_, rfl⟩
      rcases steps7 hk0 h6 with rfl | rfl | rfl | rfl | rfl | rfl | rfl
      all_goals
        have hix := fun w => idx7 _ hk0 h6 w
        simp only [H, Int.reduceEq, if_true, if_false] at hc hix
        go_wp2_with fail
        go_roundg GG
        case measure => have := HG.out; have := hGG.out; omega
        case rel => exact ⟨_, rfl, by rw [hGG.out]; rfl, by omega, by omega, rfl⟩

/-- spelled, for every number and alteration within the limits -/
theorem spelled_any (n a : Int) (w : World) (hn : 0 ≤ n) (hn2 : n ≤ 127) (ha : -2 ≤ a) (ha2 : a ≤ 2) (hT : Hts w) :
    Calls Tryd.prog 63 #[.int .i64 n, .int .i64 a] w fun e w' => e = .returned (.tuple #[.agg #[.int .i64 (spX n a (so ((n - a) % 12))), .int .i64 (spX n a a), .int .i64 (spX n a ((n - a + 12) / 12 - 2))], .int .i64 (spE n a)]) ∧ G w w' := by
  have m0 : 0 ≤ (n - a) % 12 := by omega
  have m1 : (n - a) % 12 ≤ 11 := by omega
  have e12 : (n - a + 12) % 12 = (n - a) % 12 := by omega
  unfold spX spE
  rcases so_cases _ m0 m1 with ⟨h7, hm⟩ | h
  · rw [if_pos h7, if_pos h7, if_pos h7, if_pos h7]
    exact spelled_none n a _ w hn hn2 ha ha2 e12 hm hT
  · have hK : so ((n - a) % 12) ≤ 6 ∧ 0 ≤ so ((n - a) % 12) := by omega
    have h7 : so ((n - a) % 12) ≠ 7 := by omega
    rw [if_neg h7, if_neg h7, if_neg h7, if_neg h7]
    exact spelled_found n a _ _ w hn hn2 ha ha2 e12 hK.1 hK.2 h hT
end Go.Proofs.YtkooggakngheoaaDoor
