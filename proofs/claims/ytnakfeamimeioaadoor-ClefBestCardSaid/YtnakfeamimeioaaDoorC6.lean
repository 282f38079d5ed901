import Derived.Test.YtnakfeamimeioaaDoorC4
import Derived.Test.YtnakfeamimeioaaDoorC5
import Derived.BigRegion
/-! The reference's Steps, At, Signature. -/
namespace Go.Proofs.YtnakfeamimeioaaDoor
open Go.RowKit
attribute [local go_sem] World.cell?_alloc_some

def tU (k : Nat) : List Int := (List.range k).map (fun k : Nat => sh k)
def tD (k : Nat) : List Int := (List.range k).map (fun k : Nat => sh (6 - k))
theorem tU_succ (k : Nat) : tU (k + 1) = tU k ++ [sh k] := by simp [tU, List.range_succ]
theorem tD_succ (k : Nat) : tD (k + 1) = tD k ++ [sh (6 - k)] := by simp [tD, List.range_succ]
theorem tU_len (k : Nat) : (tU k).length = k := by simp [tU]
theorem tD_len (k : Nat) : (tD k).length = k := by simp [tD]
def stL (f : Int) : List Int := tU f.toNat ++ tD (-f).toNat
theorem stL_len {f : Int} (h : Sg f) : (stL f).length ≤ 100 := by
  obtain ⟨f0, f1⟩ := h
  unfold stL; rw [List.length_append, tU_len, tD_len]; omega
theorem stL_bd {f x : Int} (h : x ∈ stL f) : 0 ≤ x ∧ x ≤ 6 := by
  unfold stL tU tD at h
  rcases List.mem_append.1 h with h | h
  · obtain ⟨k, _, rfl⟩ := List.mem_map.1 h; exact sh_bd _
  · obtain ⟨k, _, rfl⟩ := List.mem_map.1 h; exact sh_bd _
theorem sharps_at (w : World) (k : Nat) (hk : k ≤ 6) : (w.alloc (.cells #[.int .i64 3, .int .i64 0, .int .i64 4, .int .i64 1, .int .i64 5, .int .i64 2, .int .i64 6] 3)).cell? ⟨w.heap.size, k, none⟩ = some (.int .i64 (sh k)) := by
  have hc : k = 0 ∨ k = 1 ∨ k = 2 ∨ k = 3 ∨ k = 4 ∨ k = 5 ∨ k = 6 := by omega
  rcases hc with rfl | rfl | rfl | rfl | rfl | rfl | rfl <;> exact cell_new w _ _ _ _ rfl

set_option maxRecDepth 100000 in
set_option maxHeartbeats 4000000 in
theorem rSteps_any (f : Int) (w : World) (hf : Sg f) : Calls Tryd.prog 26 #[.int .i64 f] w fun e w' => ∃ v, e = .returned v ∧ At w w' v (stL f) := by
  obtain ⟨i0, hi, hz0, hz1, hz2⟩ := info_parts' iInfo
  obtain ⟨f0, f1⟩ := hf
  have HSH := Lib.hid (sharps_at w)
  have gWB : G w (w.alloc (.cells #[.int .i64 3, .int .i64 0, .int .i64 4, .int .i64 1, .int .i64 5, .int .i64 2, .int .i64 6] 3)) := by (repeat' (first | (with_reducible exact G.refl _) | (with_reducible refine G.drewN ?_ _) | (with_reducible refine G.drew ?_) | (with_reducible refine G.alloc ?_ _)))
  go_enter Tryd.func26, Tryd.ntmps26
  go_wp2_with fail
  generalize w.alloc (.cells #[.int .i64 3, .int .i64 0, .int .i64 4, .int .i64 1, .int .i64 5, .int .i64 2, .int .i64 6] 3) = WB at *
  go_loopg [4, 5] f.toNat (fun g y x wr => ∃ (v : Value) (k : Nat), v = y ∧ x = .int .i64 k ∧ g = f.toNat - k ∧ (k = 0 ∨ (k : Int) ≤ f) ∧ At WB wr v (tU k))
  case atStart => exact ⟨_, 0, rfl, rfl, rfl, .inl rfl, At.nil WB⟩
  case round =>
    obtain ⟨v, k, rfl, rfl, hg, hk, hA⟩ := hrel
    have HG := Lib.hid hg
    clear hg
    by_cases cc : (k : Int) < f
    · have hc := hA.2.at (HSH.out k (by omega))
      obtain ⟨X, hX⟩ : ∃ z : Int, Hid (z = sh k) := ⟨_, rfl⟩
      rw [← hX.out] at hc
      have HU := Lib.hid (show tU (k + 1) = tU k ++ [X] by rw [tU_succ, hX.out])
      have hl := tU_len k
      have HA := Lib.hid hA
      have hsz := hA.2.size
      clear hA hX hk
      have qk := IntWalk.i64_in ((k : Int) + 1) (by omega)
      go_wp2_with (at_builtin; refine wpList_append_own _ rfl _ _ 41 rfl WB.heap.size 3 i0 (.int .i64 0) 1 8 Tryd.underlying41 hi hz0 hz1 hz2 rfl (by decide) v (tU k).length (ints (tU k)) rfl (own_later HA.out.1 (by (repeat' (first | (with_reducible exact G.refl _) | (with_reducible assumption) | (with_reducible refine G.drewN ?_ _) | (with_reducible refine G.drew ?_) | (with_reducible refine G.alloc ?_ _) | (with_reducible refine G.setCell ?_ (by first | (with_reducible exact Nat.le_refl _) | (simp; done) | (simp; omega) | omega) _) | (with_reducible refine G.trans ?_ (by assumption)))))) ⟨wr.heap.size, 0, none⟩ 1 1 [.int .i64 X] rfl rfl (cell_one_new _ _ _ _ (by simp)) (by simp [Value.oneCell']) (by unfold maxLen; omega) (by omega) (by simp; omega) ?_; intro v' w1 hown' hgrow _)
      have hA5 := At.more HA.out hown' hgrow
      go_roundg (f.toNat - (k + 1))
      case measure => have := HG.out; omega
      case rel => exact ⟨v', k + 1, rfl, by go_num, rfl, .inr (by omega), by rw [HU.out]; exact hA5⟩
    · obtain rfl : k = f.toNat := by omega
      have gA := hA.2
      clear hk
      go_wp2_with fail
      go_loopg [4, 6] (-f).toNat (fun g y x wr => ∃ (v : Value) (k : Nat), v = y ∧ x = .int .i64 k ∧ g = (-f).toNat - k ∧ (k = 0 ∨ (k : Int) ≤ -f) ∧ At WB wr v (tU f.toNat ++ tD k))
      case atStart => exact ⟨_, 0, rfl, rfl, rfl, .inl rfl, by simpa [tD] using hA⟩
      case round =>
        clear hA gA
        obtain ⟨v, k, rfl, rfl, hg, hk, hA⟩ := hrel
        have HG2 := Lib.hid hg
        clear hg
        by_cases d : (k : Int) < -f
        · have hc := hA.2.at (HSH.out (6 - k) (by omega))
          obtain ⟨X, hX⟩ : ∃ z : Int, Hid (z = sh ((6 - k : Nat) : Int)) := ⟨_, rfl⟩
          rw [← hX.out] at hc
          have HU := Lib.hid (show tU f.toNat ++ tD (k + 1) = (tU f.toNat ++ tD k) ++ [X] by rw [tD_succ, hX.out, show (((6 - k : Nat) : Nat) : Int) = 6 - (k : Int) by omega, List.append_assoc])
          have hl : (tU f.toNat ++ tD k).length = k := by rw [List.length_append, tU_len, tD_len]; omega
          have HA := Lib.hid hA
          have hsz := hA.2.size
          clear hA hX hk
          have qk := IntWalk.i64_in ((k : Int) + 1) (by omega)
          go_wp2_with (at_builtin; refine wpList_append_own _ rfl _ _ 41 rfl WB.heap.size 3 i0 (.int .i64 0) 1 8 Tryd.underlying41 hi hz0 hz1 hz2 rfl (by decide) v (tU f.toNat ++ tD k).length (ints (tU f.toNat ++ tD k)) rfl (own_later HA.out.1 (by (repeat' (first | (with_reducible exact G.refl _) | (with_reducible assumption) | (with_reducible refine G.drewN ?_ _) | (with_reducible refine G.drew ?_) | (with_reducible refine G.alloc ?_ _) | (with_reducible refine G.setCell ?_ (by first | (with_reducible exact Nat.le_refl _) | (simp; done) | (simp; omega) | omega) _) | (with_reducible refine G.trans ?_ (by assumption)))))) ⟨wr.heap.size, 0, none⟩ 1 1 [.int .i64 X] rfl rfl (cell_one_new _ _ _ _ (by simp)) (by simp [Value.oneCell']) (by unfold maxLen; omega) (by omega) (by simp; omega) ?_; intro v' w1 hown' hgrow _)
          have hA5 := At.more HA.out hown' hgrow
          go_roundg ((-f).toNat - (k + 1))
          case measure => have := HG2.out; omega
          case rel => exact ⟨v', k + 1, rfl, by go_num, rfl, .inr (by omega), by rw [HU.out]; exact hA5⟩
        · obtain rfl : k = (-f).toNat := by omega
          have HL := Lib.hid (show stL f = tU f.toNat ++ tD (-f).toNat from rfl)
          go_wp2_with fail
          go_ret
          exact ⟨v, rfl, by rw [HL.out]; exact hA.base gWB⟩
end Go.Proofs.YtnakfeamimeioaaDoor
