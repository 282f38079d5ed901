import Derived.Test.YtnakfeamimeioaaDoorC2
/-! Clefs: Ledger, Signature. -/
namespace Go.Proofs.YtnakfeamimeioaaDoor
open Go.RowKit
attribute [local go_sem] World.cell?_alloc_some

/-- the ledger lines above and below -/
def up (k : Nat) : List Int := (List.range k).map (fun k : Nat => 6 + 2 * (k : Int))
def dn (k : Nat) : List Int := (List.range k).map (fun k : Nat => -6 - 2 * (k : Int))
theorem up_succ (k : Nat) : up (k + 1) = up k ++ [6 + 2 * (k : Int)] := by simp [up, List.range_succ]
theorem dn_succ (k : Nat) : dn (k + 1) = dn k ++ [-6 - 2 * (k : Int)] := by simp [dn, List.range_succ]
theorem up_len (k : Nat) : (up k).length = k := by simp [up]
theorem dn_len (k : Nat) : (dn k).length = k := by simp [dn]
def nU (p : Int) : Nat := ((p - 4) / 2).toNat
def nD (p : Int) : Nat := ((-p - 4) / 2).toNat
def lgL (p : Int) : List Int := if p < -200 ∨ 200 < p then [] else up (nU p) ++ dn (nD p)
theorem lgL_in {p : Int} (h0 : -200 ≤ p) (h1 : p ≤ 200) : lgL p = up (nU p) ++ dn (nD p) := if_neg (by omega)
theorem lgL_len (p : Int) : (lgL p).length ≤ 100 := by
  unfold lgL
  split
  · simp
  · rw [List.length_append, up_len, dn_len]; unfold nU nD; omega

theorem Ledger_out (p : Int) (w : World) (h : p < -200 ∨ 200 < p) : Calls Tryd.prog 22 #[.int .i64 p] w fun e w' => e = .returned (.slice none 0 0) ∧ w = w' := by
  rcases h with h | h
  · go_enter Tryd.func22, Tryd.ntmps22
    go_wp2_with fail
    go_ret
    exact ⟨rfl, rfl⟩
  · have h2 : ¬ p < -200 := by omega
    go_enter Tryd.func22, Tryd.ntmps22
    go_wp2_with fail
    go_ret
    exact ⟨rfl, rfl⟩

set_option maxRecDepth 100000 in
set_option maxHeartbeats 4000000 in
theorem Ledger_in (p : Int) (w : World) (h0 : -200 ≤ p) (h1 : p ≤ 200) : Calls Tryd.prog 22 #[.int .i64 p] w fun e w' => ∃ v, e = .returned v ∧ At w w' v (lgL p) := by
  obtain ⟨i0, hi, hz0, hz1, hz2⟩ := info_parts' iInfo
  go_enter Tryd.func22, Tryd.ntmps22
  go_wp2_with fail
  go_loopg [3, 4] (nU p) (fun g y x wr => ∃ (v : Value) (k : Nat) (z : Int), v = y ∧ x = .int .i64 z ∧ Hid (z = 6 + 2 * (k : Int)) ∧ g = nU p - k ∧ k ≤ nU p ∧ At w wr v (up k))
  case atStart => exact ⟨_, 0, 6, rfl, rfl, Lib.hid rfl, rfl, by omega, At.nil w⟩
  case round =>
    obtain ⟨v, k, z, rfl, rfl, hz, hg, hk, hA⟩ := hrel
    have HG := Lib.hid hg
    have hze := hz.out
    have hkb : k ≤ 98 := by unfold nU at hk; omega
    clear hg
    by_cases c : z ≤ p
    · have hk2 := Lib.hid (show k + 1 ≤ nU p by unfold nU; omega)
      have HU := Lib.hid (show up (k + 1) = up k ++ [z] by rw [up_succ, hze])
      have hl := up_len k
      have HA := Lib.hid hA
      have hsz := hA.2.size
      have q := IntWalk.i64_in (z + 2) (by omega)
      have HZ2 := Lib.hid (show z + 2 = 6 + 2 * ((k + 1 : Nat) : Int) by omega)
      clear hA hze hk
      go_wp2_with (at_builtin; refine wpList_append_own _ rfl _ _ 41 rfl w.heap.size 3 i0 (.int .i64 0) 1 8 Tryd.underlying41 hi hz0 hz1 hz2 rfl (by decide) v (up k).length (ints (up k)) rfl (own_later HA.out.1 (by (repeat' (first | (with_reducible exact G.refl _) | (with_reducible assumption) | (with_reducible refine G.drewN ?_ _) | (with_reducible refine G.drew ?_) | (with_reducible refine G.alloc ?_ _) | (with_reducible refine G.setCell ?_ (by first | (with_reducible exact Nat.le_refl _) | (simp; done) | (simp; omega) | omega) _) | (with_reducible refine G.trans ?_ (by assumption)))))) ⟨wr.heap.size, 0, none⟩ 1 1 [.int .i64 z] rfl rfl (cell_one_new _ _ _ _ (by simp)) (by simp [Value.oneCell']) (by unfold maxLen; omega) (by omega) (by simp; omega) ?_; intro v' w1 hown' hgrow _)
      have hA5 := At.more HA.out hown' hgrow
      go_roundg (nU p - (k + 1))
      case measure => have := HG.out; have := hk2.out; omega
      case rel => exact ⟨v', k + 1, z + 2, rfl, rfl, HZ2, rfl, hk2.out, by rw [HU.out]; exact hA5⟩
    · obtain rfl : k = nU p := by unfold nU at hk ⊢; omega
      have gA := hA.2
      clear hze
      go_wp2_with fail
      go_loopg [3, 5] (nD p) (fun g y x wr => ∃ (v : Value) (k : Nat) (z : Int), v = y ∧ x = .int .i64 z ∧ Hid (z = -6 - 2 * (k : Int)) ∧ g = nD p - k ∧ k ≤ nD p ∧ At w wr v (up (nU p) ++ dn k))
      case atStart => exact ⟨_, 0, -6, rfl, rfl, Lib.hid rfl, rfl, by omega, by simpa [dn] using hA⟩
      case round =>
        clear hA
        obtain ⟨v, k, z2, rfl, rfl, hz2', hg, hk, hA⟩ := hrel
        have HG2 := Lib.hid hg
        have hze := hz2'.out
        have hkb2 : k ≤ 98 := by unfold nD at hk; omega
        clear hg
        by_cases c2 : p ≤ z2
        · have hk2 := Lib.hid (show k + 1 ≤ nD p by unfold nD; omega)
          have HU := Lib.hid (show up (nU p) ++ dn (k + 1) = (up (nU p) ++ dn k) ++ [z2] by rw [dn_succ, hze, List.append_assoc])
          have hl : (up (nU p) ++ dn k).length ≤ 200 := by rw [List.length_append, up_len, dn_len]; omega
          have HA := Lib.hid hA
          have hsz := hA.2.size
          have q := IntWalk.i64_in (z2 - 2) (by omega)
          have HZ2 := Lib.hid (show z2 - 2 = -6 - 2 * ((k + 1 : Nat) : Int) by omega)
          clear hA hze hk
          go_wp2_with (at_builtin; refine wpList_append_own _ rfl _ _ 41 rfl w.heap.size 3 i0 (.int .i64 0) 1 8 Tryd.underlying41 hi hz0 hz1 hz2 rfl (by decide) v (up (nU p) ++ dn k).length (ints (up (nU p) ++ dn k)) rfl (own_later HA.out.1 (by (repeat' (first | (with_reducible exact G.refl _) | (with_reducible assumption) | (with_reducible refine G.drewN ?_ _) | (with_reducible refine G.drew ?_) | (with_reducible refine G.alloc ?_ _) | (with_reducible refine G.setCell ?_ (by first | (with_reducible exact Nat.le_refl _) | (simp; done) | (simp; omega) | omega) _) | (with_reducible refine G.trans ?_ (by assumption)))))) ⟨wr.heap.size, 0, none⟩ 1 1 [.int .i64 z2] rfl rfl (cell_one_new _ _ _ _ (by simp)) (by simp [Value.oneCell']) (by unfold maxLen; omega) (by omega) (by simp; omega) ?_; intro v' w1 hown' hgrow _)
          have hA5 := At.more HA.out hown' hgrow
          go_roundg (nD p - (k + 1))
          case measure => have := HG2.out; have := hk2.out; omega
          case rel => exact ⟨v', k + 1, z2 - 2, rfl, rfl, HZ2, rfl, hk2.out, by rw [HU.out]; exact hA5⟩
        · obtain rfl : k = nD p := by unfold nD at hk ⊢; omega
          have HL := Lib.hid (lgL_in h0 h1)
          clear hze
          go_wp2_with fail
          go_ret
          exact ⟨v, rfl, by rw [HL.out]; exact hA⟩
end Go.Proofs.YtnakfeamimeioaaDoor
