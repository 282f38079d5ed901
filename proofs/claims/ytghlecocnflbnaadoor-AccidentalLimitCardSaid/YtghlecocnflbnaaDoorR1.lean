import Derived.Test.YtghlecocnflbnaaDoorRw
import Derived.BigRegion
/-! Accidentals: the reference's smallest functions. -/
namespace Go.Proofs.YtghlecocnflbnaaDoor
open Go.RowKit
attribute [local go_sem] World.cell?_alloc_some

theorem rIndex_any (s o : Int) (w : World) (h : POk s o) : Calls Tryd.prog 30 #[.int .i64 s, .int .i64 o] w fun e w' => e = .returned (.int .i64 (ix s o)) ∧ w = w' := by
  obtain ⟨⟨h0, h1⟩, h2, h3⟩ := h
  have q1 := IntWalk.i64_in (o + 1) (by omega)
  have q2 := IntWalk.i64_in (7 * (o + 1)) (by omega)
  have q3 := IntWalk.i64_in (7 * (o + 1) + s) (by omega)
  have HE := Lib.hid (show 7 * (o + 1) + s = ix s o from rfl)
  go_enter Tryd.func30, Tryd.ntmps30
  go_wp2_with fail
  go_ret
  exact ⟨ret_int HE.out, rfl⟩

theorem sharps_cell (w : World) (B k : Nat) (hB : w.heap.size = B) (h : k < 7) : (w.alloc (.cells #[.int .i64 3, .int .i64 0, .int .i64 4, .int .i64 1, .int .i64 5, .int .i64 2, .int .i64 6] 3)).cell? ⟨B, k, none⟩ = some (.int .i64 (sh k)) := by
  subst hB
  have hk : k = 0 ∨ k = 1 ∨ k = 2 ∨ k = 3 ∨ k = 4 ∨ k = 5 ∨ k = 6 := by omega
  rcases hk with rfl | rfl | rfl | rfl | rfl | rfl | rfl <;> simp [sh]
set_option maxRecDepth 100000 in
set_option maxHeartbeats 3200000 in
theorem rKey_any (f s : Int) (w : World) (hf : Sg f) (h0 : 0 ≤ s) (h1 : s ≤ 6) : Calls Tryd.prog 23 #[.int .i64 f, .int .i64 s] w fun e w' => e = .returned (.int .i64 (al f s)) ∧ G w w' := by
  have HF := Lib.hid hf
  have hr := rk_in h0 h1
  obtain ⟨R, hR⟩ : ∃ z : Int, Hid (z = rk s) := ⟨_, rfl⟩
  obtain ⟨A, hA⟩ : ∃ z : Int, Hid (z = al f s) := ⟨_, rfl⟩
  rw [← hA.out]
  rw [← hR.out] at hr
  obtain ⟨f0, f1⟩ := hf
  have HS := Lib.hid (And.intro h0 h1)
  have q9 := IntWalk.i64_in (-f) (by omega)
  go_enter Tryd.func23, Tryd.ntmps23
  go_wp2_with fail
  have HC := Lib.hid (fun k h => sharps_cell w w.heap.size k rfl h)
  have g1 : G w (w.alloc (.cells #[.int .i64 3, .int .i64 0, .int .i64 4, .int .i64 1, .int .i64 5, .int .i64 2, .int .i64 6] 3)) := by (repeat' (first | (with_reducible exact G.refl _) | (with_reducible assumption) | (with_reducible refine G.drewN ?_ _) | (with_reducible refine G.drew ?_) | (with_reducible refine G.alloc ?_ _) | (with_reducible refine G.setCell ?_ (by first | (with_reducible exact Nat.le_refl _) | (simp; done) | (simp; omega) | omega) _) | (with_reducible refine G.trans ?_ (by assumption))))
  generalize w.alloc (.cells #[.int .i64 3, .int .i64 0, .int .i64 4, .int .i64 1, .int .i64 5, .int .i64 2, .int .i64 6] 3) = W at *
  go_loopg [6] 7 (fun q x wr => ∃ k : Nat, x = .int .i64 k ∧ q = 7 - k ∧ k ≤ 7 ∧ Hid ((k : Int) ≤ R ∨ ¬ (R < f)) ∧ Hid ((k : Int) ≤ 6 - R ∨ ¬ (6 - R < -f)) ∧ wr = W)
  case atStart => exact ⟨0, rfl, by omega, by omega, Lib.hid (.inl (by simpa using hr.1)), Lib.hid (.inl (by simp; omega)), rfl⟩
  case round =>
    obtain ⟨k, rfl, hg, hk, hU, hD, rfl⟩ := hrel
    have HG := Lib.hid hg
    clear hg
    by_cases hin : k < 7
    · have b1 : (0 : Int) ≤ (k : Int) := by omega
      have b2 : (k : Int) < 7 := by omega
      have b3 : (0 : Int) ≤ 6 - (k : Int) := by omega
      have b4 : 6 - (k : Int) < 7 := by omega
      have q1 := IntWalk.i64_in ((k : Int) + 1) (by omega)
      have q2 := IntWalk.i64_in (6 - (k : Int)) (by omega)
      have b7 : (6 - (k : Int)).toNat = 6 - k := by omega
      have c1 := HC.out k hin
      have c2 := HC.out (6 - k) (by omega)
      have e2 : (((6 - k : Nat) : Int)) = 6 - (k : Int) := by omega
      rw [e2] at c2
      obtain ⟨X, hX⟩ : ∃ z : Int, Hid (z = sh k) := ⟨_, rfl⟩
      obtain ⟨Y, hY⟩ : ∃ z : Int, Hid (z = sh (6 - (k : Int))) := ⟨_, rfl⟩
      rw [← hX.out] at c1
      rw [← hY.out] at c2
      have HXR := Lib.hid (show X = s ↔ (k : Int) = R by
        rw [hX.out, hR.out]
        exact ⟨fun e => by rw [← e, rk_sh (by omega) (by omega)], fun e => by rw [e, sh_rk HS.out.1 HS.out.2]⟩)
      have HYR := Lib.hid (show Y = s ↔ 6 - (k : Int) = R by
        rw [hY.out, hR.out]
        exact ⟨fun e => by rw [← e, rk_sh (by omega) (by omega)], fun e => by rw [e, sh_rk HS.out.1 HS.out.2]⟩)
      clear e2 b7
      have b7 : (6 - (k : Int)).toNat = 6 - k := by omega
      by_cases u : X = s ∧ (k : Int) < f
      · have k1 : (X == s) = true := by rw [u.1]; simp
        have k2 : (k : Int) < f := u.2
        have HA := Lib.hid (show A = 1 by rw [hA.out]; unfold al; rw [← hR.out, if_pos (by have := HXR.out.1 u.1; omega)])
        clear u
        go_wp2_with fail
        go_ret
        exact ⟨ret_int HA.out.symm, by (repeat' (first | (with_reducible exact G.refl _) | (with_reducible assumption) | (with_reducible refine G.drewN ?_ _) | (with_reducible refine G.drew ?_) | (with_reducible refine G.alloc ?_ _) | (with_reducible refine G.setCell ?_ (by first | (with_reducible exact Nat.le_refl _) | (simp; done) | (simp; omega) | omega) _) | (with_reducible refine G.trans ?_ (by assumption))))⟩
      · have HU2 := Lib.hid (show ((k + 1 : Nat) : Int) ≤ R ∨ ¬ (R < f) by
          rcases hU.out with h | h
          · by_cases e : (k : Int) = R
            · right; intro z; exact u ⟨HXR.out.2 e, by omega⟩
            · left; omega
          · exact .inr h)
        by_cases v : Y = s ∧ (k : Int) < -f
        · have k1 : (Y == s) = true := by rw [v.1]; simp
          have k2 : (k : Int) < -f := v.2
          have HA := Lib.hid (show A = -1 by
            rw [hA.out]; unfold al; rw [← hR.out, if_neg (by have := HYR.out.1 v.1; omega), if_pos (by have := HYR.out.1 v.1; omega)])
          clear v
          by_cases u1 : X = s
          · have k3 : (X == s) = true := by rw [u1]; simp
            have k4 : ¬ (k : Int) < f := fun z => u ⟨u1, z⟩
            clear u u1
            go_wp2_with fail
            go_ret
            exact ⟨ret_int HA.out.symm, by (repeat' (first | (with_reducible exact G.refl _) | (with_reducible assumption) | (with_reducible refine G.drewN ?_ _) | (with_reducible refine G.drew ?_) | (with_reducible refine G.alloc ?_ _) | (with_reducible refine G.setCell ?_ (by first | (with_reducible exact Nat.le_refl _) | (simp; done) | (simp; omega) | omega) _) | (with_reducible refine G.trans ?_ (by assumption))))⟩
          · have k3 : (X == s) = false := beq_false_of_ne u1
            clear u u1
            go_wp2_with fail
            go_ret
            exact ⟨ret_int HA.out.symm, by (repeat' (first | (with_reducible exact G.refl _) | (with_reducible assumption) | (with_reducible refine G.drewN ?_ _) | (with_reducible refine G.drew ?_) | (with_reducible refine G.alloc ?_ _) | (with_reducible refine G.setCell ?_ (by first | (with_reducible exact Nat.le_refl _) | (simp; done) | (simp; omega) | omega) _) | (with_reducible refine G.trans ?_ (by assumption))))⟩
        · have HD2 := Lib.hid (show ((k + 1 : Nat) : Int) ≤ 6 - R ∨ ¬ (6 - R < -f) by
            rcases hD.out with h | h
            · by_cases e : 6 - (k : Int) = R
              · right; intro z; exact v ⟨HYR.out.2 e, by omega⟩
              · left; omega
            · exact .inr h)
          by_cases u1 : X = s
          · have k3 : (X == s) = true := by rw [u1]; simp
            have k4 : ¬ (k : Int) < f := fun z => u ⟨u1, z⟩
            by_cases v1 : Y = s
            · have k5 : (Y == s) = true := by rw [v1]; simp
              have k6 : ¬ (k : Int) < -f := fun z => v ⟨v1, z⟩
              clear u u1 v v1
              go_wp2_with fail
              go_roundg (7 - (k + 1))
              case measure => have := HG.out; omega
              case rel => exact ⟨k + 1, by first | rfl | simp, rfl, by omega, HU2, HD2, rfl⟩
            · have k5 : (Y == s) = false := beq_false_of_ne v1
              clear u u1 v v1
              go_wp2_with fail
              go_roundg (7 - (k + 1))
              case measure => have := HG.out; omega
              case rel => exact ⟨k + 1, by first | rfl | simp, rfl, by omega, HU2, HD2, rfl⟩
          · have k3 : (X == s) = false := beq_false_of_ne u1
            by_cases v1 : Y = s
            · have k5 : (Y == s) = true := by rw [v1]; simp
              have k6 : ¬ (k : Int) < -f := fun z => v ⟨v1, z⟩
              clear u u1 v v1
              go_wp2_with fail
              go_roundg (7 - (k + 1))
              case measure => have := HG.out; omega
              case rel => exact ⟨k + 1, by first | rfl | simp, rfl, by omega, HU2, HD2, rfl⟩
            · have k5 : (Y == s) = false := beq_false_of_ne v1
              clear u u1 v v1
              go_wp2_with fail
              go_roundg (7 - (k + 1))
              case measure => have := HG.out; omega
              case rel => exact ⟨k + 1, by first | rfl | simp, rfl, by omega, HU2, HD2, rfl⟩
    · have hk7 : k = 7 := by omega
      subst hk7
      have HA := Lib.hid (show A = 0 by
        rw [hA.out]; unfold al
        rw [← hR.out, if_neg (by have := hU.out; omega), if_neg (by have := hD.out; omega)])
      go_wp2_with fail
      go_ret
      exact ⟨ret_int HA.out.symm, by (repeat' (first | (with_reducible exact G.refl _) | (with_reducible assumption) | (with_reducible refine G.drewN ?_ _) | (with_reducible refine G.drew ?_) | (with_reducible refine G.alloc ?_ _) | (with_reducible refine G.setCell ?_ (by first | (with_reducible exact Nat.le_refl _) | (simp; done) | (simp; omega) | omega) _) | (with_reducible refine G.trans ?_ (by assumption))))⟩

/-- a list of integers in the making -/
def inE (x : Int) : List Value := [.int .i64 x]
theorem inE_len (x : Int) : (inE x).length = 1 := rfl
theorem iInfo : (Tryd.prog.info? 3).map (fun i => (i.zero, i.size, i.bytes)) = some (some (.int .i64 0), 1, 8) := by kernel_rfl
def stL (f : Int) (k : Nat) : List Int := (List.range k).map (fun j : Nat => sg0 f j)
theorem stL_len (f : Int) (k : Nat) : (stL f k).length = k := by simp [stL]
theorem stL_succ (f : Int) (k : Nat) : stL f (k + 1) = stL f k ++ [sg0 f k] := by simp [stL, List.range_succ]
theorem Row.arr {e : TypeId} {base : Nat} {w : World} {v : Value} {f : Int} (h : Row inE e 1 base w v (stL f 77)) : ∃ g cap, v = .slice (some ⟨g, 0, none⟩) 77 cap ∧ base ≤ g ∧ 77 ≤ cap ∧ cap ≤ maxLen ∧ Arr w g (sg0 f) := by
  rcases h.cells inE_len with ⟨_, h0⟩ | ⟨g, cap, rfl, hg, hc, hc2, hcell⟩
  · have := congrArg List.length h0; rw [stL_len] at this; simp at this
  · rw [stL_len] at hc ⊢
    refine ⟨g, cap, rfl, hg, hc, hc2, fun j hj => ?_⟩
    have := hcell j (sg0 f j) (by simp [stL, hj]) 0 _ rfl
    simpa using this
set_option maxRecDepth 100000 in
set_option maxHeartbeats 3200000 in
theorem rStart_any (f : Int) (w : World) (hf : Sg f) : Calls Tryd.prog 29 #[.int .i64 f] w fun e w' => ∃ g cap, e = .returned (.slice (some ⟨g, 0, none⟩) 77 cap) ∧ w.heap.size ≤ g ∧ 77 ≤ cap ∧ Arr w' g (sg0 f) ∧ G w w' := by
  obtain ⟨i0, hi, hz0, hz1, hz2⟩ := info_parts' iInfo
  have HF := Lib.hid hf
  clear hf
  go_enter Tryd.func29, Tryd.ntmps29
  go_wp2_with fail
  go_loopg [3, 4] 77 (fun q y x wr => ∃ (k : Nat) (v : Value), v = y ∧ x = .int .i64 k ∧ q = 77 - k ∧ k ≤ 77 ∧ Hid (Row inE 3 1 w.heap.size wr v (stL f k)) ∧ G w wr)
  case atStart => exact ⟨0, _, rfl, rfl, by omega, by omega, Lib.hid (by simpa [stL] using Row.nil (enc := inE) w), by (repeat' (first | (with_reducible exact G.refl _) | (with_reducible assumption) | (with_reducible refine G.drewN ?_ _) | (with_reducible refine G.drew ?_) | (with_reducible refine G.alloc ?_ _) | (with_reducible refine G.setCell ?_ (by first | (with_reducible exact Nat.le_refl _) | (simp; done) | (simp; omega) | omega) _) | (with_reducible refine G.trans ?_ (by assumption))))⟩
  case round =>
    obtain ⟨k, v, rfl, rfl, hq, hk, hR, gr⟩ := hrel
    have HQ := Lib.hid hq
    clear hq
    by_cases hin : k < 77
    · have b1 : (0 : Int) ≤ (k : Int) := by omega
      have b2 : (k : Int) < 77 := by omega
      have q1 := IntWalk.i64_in ((k : Int) + 1) (by omega)
      have q2 : (k : Int).tmod 7 = (k : Int) % 7 := Int.tmod_eq_emod_of_nonneg b1
      obtain ⟨m, hm⟩ : ∃ z : Int, Hid (z = (k : Int) % 7) := ⟨_, rfl⟩
      have m0 : 0 ≤ m := by rw [hm.out]; omega
      have m1 : m ≤ 6 := by rw [hm.out]; omega
      obtain ⟨X, hX⟩ : ∃ z : Int, Hid (z = al f m) := ⟨_, rfl⟩
      have HX := Lib.hid (show stL f (k + 1) = stL f k ++ [X] by rw [stL_succ, hX.out, hm.out]; rfl)
      have hsz := gr.size
      have hl := stL_len f k
      go_wp2_with fail
      try rw [q2]
      rw [← hm.out]
      refine (rKey_any f m _ HF.out m0 m1).mono ?_
      rintro e w2 ⟨rfl, hG2⟩
      rw [← hX.out]
      have hs2 := hG2.size
      go_wp2_with (at_builtin; refine wpList_append_own _ rfl _ _ 32 rfl w.heap.size 3 i0 (.int .i64 0) 1 8 Tryd.underlying32 hi hz0 hz1 hz2 rfl (by decide) v (stL f k).length ((stL f k).flatMap inE) rfl (hR.out.later (by (repeat' (first | (with_reducible exact G.refl _) | (with_reducible assumption) | (with_reducible refine G.drewN ?_ _) | (with_reducible refine G.drew ?_) | (with_reducible refine G.alloc ?_ _) | (with_reducible refine G.setCell ?_ (by first | (with_reducible exact Nat.le_refl _) | (simp; done) | (simp; omega) | omega) _) | (with_reducible refine G.trans ?_ (by assumption)))))) ⟨w2.heap.size, 0, none⟩ 1 1 [.int .i64 X] rfl rfl (new_add _ _ [.int .i64 X] _ (by simp)) (by simp [Value.oneCell']) (by unfold maxLen; omega) (by omega) (by simp; omega) ?_; intro v' w6 hown' hgrow _)
      have RN := Lib.hid (Row.more (enc := inE) (M := stL f k) (x := X) hown')
      have gN : G w w6 := (gr.trans hG2).more hgrow (fun k hk => hR.out.own k hk)
      go_roundg (77 - (k + 1))
      case measure => have := HQ.out; omega
      case rel => exact ⟨k + 1, v', rfl, by first | rfl | simp, rfl, by omega, Lib.hid (by rw [HX.out]; exact RN.out), gN⟩
    · have hk7 : k = 77 := by omega
      subst hk7
      obtain ⟨g, cap, rfl, hg, hc, _, hA⟩ := hR.out.arr
      go_wp2_with fail
      go_ret
      exact ⟨g, cap, rfl, hg, hc, hA, gr⟩
end Go.Proofs.YtghlecocnflbnaaDoor
