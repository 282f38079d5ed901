import Derived.Test.YtnakfeamimeioaaDoorC3
import Derived.Deep.AppendLies
/-! Clefs: Signature. -/
namespace Go.Proofs.YtnakfeamimeioaaDoor
open Go.RowKit
attribute [local go_sem] World.cell?_alloc_some

/-- the positions of the sharps and of the flats -/
def sU (c : Int) (k : Nat) : List Int := (List.range k).map (fun k : Nat => plc (mid c) (sh k) (shp c))
def sD (c : Int) (k : Nat) : List Int := (List.range k).map (fun k : Nat => plc (mid c) (sh (6 - k)) (flt c))
theorem sU_succ (c : Int) (k : Nat) : sU c (k + 1) = sU c k ++ [plc (mid c) (sh k) (shp c)] := by simp [sU, List.range_succ]
theorem sD_succ (c : Int) (k : Nat) : sD c (k + 1) = sD c k ++ [plc (mid c) (sh (6 - k)) (flt c)] := by simp [sD, List.range_succ]
theorem sU_len (c : Int) (k : Nat) : (sU c k).length = k := by simp [sU]
theorem sD_len (c : Int) (k : Nat) : (sD c k).length = k := by simp [sD]
def Sg (f : Int) : Prop := -7 ≤ f ∧ f ≤ 7
instance (f : Int) : Decidable (Sg f) := by unfold Sg; infer_instance
def sgL (c f : Int) : List Int := sU c f.toNat ++ sD c (-f).toNat
theorem sh_bd (k : Int) : 0 ≤ sh k ∧ sh k ≤ 6 := by
  unfold sh
  repeat' split
  all_goals omega
theorem sgL_len {c f : Int} (h : Sg f) : (sgL c f).length ≤ 100 := by
  obtain ⟨f0, f1⟩ := h
  unfold sgL; rw [List.length_append, sU_len, sD_len]; omega

theorem Signature_bad1 (c f : Int) (w : World) (h : ¬ Cf c) : Calls Tryd.prog 24 #[.int .i64 c, .int .i64 f] w fun e w' => e = .returned (.tuple #[.slice none 0 0, .int .i64 11]) ∧ G w w' := by
  have HC := Lib.hid h
  clear h
  go_enter Tryd.func24, Tryd.ntmps24
  go_wp2_with fail
  refine (designOf_bad c _ HC.out).mono ?_
  rintro e w1 ⟨rfl, hG⟩
  go_wp2_with fail
  go_returns
  exact ⟨rfl, by (repeat' (first | (with_reducible exact G.refl _) | (with_reducible assumption) | (with_reducible refine G.drewN ?_ _) | (with_reducible refine G.drew ?_) | (with_reducible refine G.alloc ?_ _) | (with_reducible refine G.setCell ?_ (by first | (with_reducible exact Nat.le_refl _) | (simp; done) | (simp; omega) | omega) _) | (with_reducible refine G.trans ?_ (by assumption))))⟩
set_option maxRecDepth 20000 in
theorem Signature_bad2 (c f : Int) (w : World) (h : Cf c) (hf : ¬ Sg f) (hT : Tab w) : Calls Tryd.prog 24 #[.int .i64 c, .int .i64 f] w fun e w' => e = .returned (.tuple #[.slice none 0 0, .int .i64 2]) ∧ G w w' := by
  have HC := Lib.hid h
  have HT := Lib.hid hT
  have hf2 : f < -7 ∨ (-7 ≤ f ∧ 7 < f) := by unfold Sg at hf; omega
  clear h hf hT
  rcases hf2 with k | ⟨k, k2⟩
  all_goals
    go_enter Tryd.func24, Tryd.ntmps24
    go_wp2_with fail
    refine (designOf_ok c _ HC.out (HT.out.later (by (repeat' (first | (with_reducible exact G.refl _) | (with_reducible assumption) | (with_reducible refine G.drewN ?_ _) | (with_reducible refine G.drew ?_) | (with_reducible refine G.alloc ?_ _) | (with_reducible refine G.setCell ?_ (by first | (with_reducible exact Nat.le_refl _) | (simp; done) | (simp; omega) | omega) _) | (with_reducible refine G.trans ?_ (by assumption)))))).dsn).mono ?_
    rintro e w1 ⟨rfl, hG⟩
    go_wp2_with fail
    go_returns
    exact ⟨rfl, by (repeat' (first | (with_reducible exact G.refl _) | (with_reducible assumption) | (with_reducible refine G.drewN ?_ _) | (with_reducible refine G.drew ?_) | (with_reducible refine G.alloc ?_ _) | (with_reducible refine G.setCell ?_ (by first | (with_reducible exact Nat.le_refl _) | (simp; done) | (simp; omega) | omega) _) | (with_reducible refine G.trans ?_ (by assumption))))⟩

set_option maxRecDepth 100000 in
set_option maxHeartbeats 4000000 in
theorem Signature_ok (c f : Int) (w : World) (h : Cf c) (hf : Sg f) (hT : Tab w) : Calls Tryd.prog 24 #[.int .i64 c, .int .i64 f] w fun e w' => ∃ v, e = .returned (.tuple #[v, .int .i64 0]) ∧ At w w' v (sgL c f) := by
  obtain ⟨i0, hi, hz0, hz1, hz2⟩ := info_parts' iInfo
  have HC := Lib.hid h
  have HT := Lib.hid hT
  obtain ⟨f0, f1⟩ := hf
  obtain ⟨m, hm⟩ : ∃ z : Int, Hid (z = mid c) := ⟨_, rfl⟩
  obtain ⟨p, hp⟩ : ∃ z : Int, Hid (z = shp c) := ⟨_, rfl⟩
  obtain ⟨q, hq⟩ : ∃ z : Int, Hid (z = flt c) := ⟨_, rfl⟩
  have HM := Lib.hid (show 15 ≤ m ∧ m ≤ 34 by rw [hm.out]; exact mid_bd c)
  have HP := Lib.hid (show -5 ≤ p ∧ p ≤ -1 by rw [hp.out]; have := shp_bd c; omega)
  have HQ := Lib.hid (show -5 ≤ q ∧ q ≤ -1 by rw [hq.out]; have := flt_bd c; omega)
  clear h hT
  go_enter Tryd.func24, Tryd.ntmps24
  go_wp2_with fail
  refine (designOf_ok c _ HC.out (HT.out.later (by (repeat' (first | (with_reducible exact G.refl _) | (with_reducible assumption) | (with_reducible refine G.drewN ?_ _) | (with_reducible refine G.drew ?_) | (with_reducible refine G.alloc ?_ _) | (with_reducible refine G.setCell ?_ (by first | (with_reducible exact Nat.le_refl _) | (simp; done) | (simp; omega) | omega) _) | (with_reducible refine G.trans ?_ (by assumption)))))).dsn).mono ?_
  rintro e w1 ⟨rfl, hG⟩
  rw [← hm.out, ← hp.out, ← hq.out]
  go_wp2_with fail
  have gWB : G w (w1.alloc (.cells #[.string (nm c), .int .u8 (lt c), .int .i64 (li c), .int .i64 (oc c), .int .i64 m, .int .i64 p, .int .i64 q] 63)) := hG.alloc _
  obtain ⟨z0, z1, z2, z3, z4, z5, z6⟩ := sev_later (G.refl (w1.alloc (.cells #[.string (nm c), .int .u8 (lt c), .int .i64 (li c), .int .i64 (oc c), .int .i64 m, .int .i64 p, .int .i64 q] 63)))
  generalize w1.alloc (.cells #[.string (nm c), .int .u8 (lt c), .int .i64 (li c), .int .i64 (oc c), .int .i64 m, .int .i64 p, .int .i64 q] 63) = WB at *
  have HTB := Lib.hid ((HT.out.later gWB).ord)
  go_loopg [8, 26] f.toNat (fun g y x wr => ∃ (v : Value) (k : Nat), v = y ∧ x = .int .i64 k ∧ g = f.toNat - k ∧ (k = 0 ∨ (k : Int) ≤ f) ∧ At WB wr v (sU c k))
  case atStart => exact ⟨_, 0, rfl, rfl, rfl, .inl rfl, At.nil WB⟩
  case round =>
    obtain ⟨v, k, rfl, rfl, hg, hk, hA⟩ := hrel
    have HG := Lib.hid hg
    clear hg
    by_cases cc : (k : Int) < f
    · have hc := (HTB.out.later hA.2).cell k (by omega)
      obtain ⟨S, hS⟩ : ∃ z : Int, Hid (z = sh k) := ⟨_, rfl⟩
      rw [← hS.out] at hc
      have HSB := Lib.hid (show 0 ≤ S ∧ S ≤ 6 by rw [hS.out]; exact sh_bd _)
      obtain ⟨X, hX⟩ : ∃ z : Int, Hid (z = plc m S p) := ⟨_, rfl⟩
      have HU := Lib.hid (show sU c (k + 1) = sU c k ++ [X] by rw [sU_succ, hX.out, hS.out, hm.out, hp.out])
      have hl := sU_len c k
      have y0 := hA.2.at z0
      have y1 := hA.2.at z1
      have y2 := hA.2.at z2
      have y3 := hA.2.at z3
      have y4 := hA.2.at z4
      have y5 := hA.2.at z5
      have y6 := hA.2.at z6
      have HA := Lib.hid hA
      have hsz := hA.2.size
      clear hA hk
      have b1 : (0 : Int) ≤ (k : Int) := by omega
      have b2 : (k : Int) < 7 := by omega
      have qk := IntWalk.i64_in ((k : Int) + 1) (by omega)
      go_wp2_with fail
      go_region_held3 (fun w' => w'.cell? ⟨w1.heap.size, 0, none⟩ = some (.string (nm c)) ∧ w'.cell? ⟨w1.heap.size, 1, none⟩ = some (.int .u8 (lt c)) ∧ w'.cell? ⟨w1.heap.size, 2, none⟩ = some (.int .i64 (li c)) ∧ w'.cell? ⟨w1.heap.size, 3, none⟩ = some (.int .i64 (oc c)) ∧ w'.cell? ⟨w1.heap.size, 4, none⟩ = some (.int .i64 m) ∧ w'.cell? ⟨w1.heap.size, 5, none⟩ = some (.int .i64 p) ∧ w'.cell? ⟨w1.heap.size, 6, none⟩ = some (.int .i64 q) ∧ w'.cell? ⟨0, k, none⟩ = some (.int .i64 S))
        (first | (with_reducible assumption) | ((try dsimp only); (repeat' (with_reducible apply And.intro)) <;> go_simp))
        (first
          | (go_at_call 37; ((with_reducible refine (place_any _ _ _ _ _ _ _ _ _ _ HM.out HP.out HSB.out).mono ?_); rintro e w9 ⟨rfl, hG9⟩; rw [← hX.out]; have gc : G wr w9 := G.trans (by (repeat' (first | (with_reducible exact G.refl _) | (with_reducible refine G.drewN ?_ _) | (with_reducible refine G.drew ?_) | (with_reducible refine G.alloc ?_ _)))) hG9; have hA9 := HA.out.later gc; have y0' := gc.at y0; have y1' := gc.at y1; have y2' := gc.at y2; have y3' := gc.at y3; have y4' := gc.at y4; have y5' := gc.at y5; have y6' := gc.at y6; have hc' := gc.at hc; have hs9 := hA9.2.size))
          | (refine step_append_lies _ rfl _ _ 41 rfl WB.heap.size 3 i0 (.int .i64 0) 1 8 Tryd.underlying41 hi hz0 hz1 hz2 rfl (by decide) v (sU c k).length (ints (sU c k)) rfl (own_later hA9.1 (by (repeat' (first | (with_reducible exact G.refl _) | (with_reducible assumption) | (with_reducible refine G.drewN ?_ _) | (with_reducible refine G.drew ?_) | (with_reducible refine G.alloc ?_ _) | (with_reducible refine G.setCell ?_ (by first | (with_reducible exact Nat.le_refl _) | (simp; done) | (simp; omega) | omega) _) | (with_reducible refine G.trans ?_ (by assumption)))))) ⟨w9.heap.size, 0, none⟩ 1 1 [.int .i64 X] rfl rfl (cell_one_new _ _ _ _ (by simp)) (by simp [Value.oneCell']) (by omega) (by unfold maxLen; omega) (by omega) (by simp; omega) _ rfl ?_; intro gb cap2 w8 hown' hgrow _ _; have hA5 := At.more hA9 hown' hgrow; have y0'' := hA5.2.at z0; have y1'' := hA5.2.at z1; have y2'' := hA5.2.at z2; have y3'' := hA5.2.at z3; have y4'' := hA5.2.at z4; have y5'' := hA5.2.at z5; have y6'' := hA5.2.at z6; have hc'' := (HTB.out.later hA5.2).cell k (by omega); rw [← hS.out] at hc''))
      all_goals
        go_wp2_with fail
        go_roundg (f.toNat - (k + 1))
        case measure => have := HG.out; omega
        case rel => exact ⟨_, k + 1, rfl, by go_num, rfl, .inr (by omega), by rw [HU.out]; rw [hl] at hA5; exact hA5⟩
    · obtain rfl : k = f.toNat := by omega
      have gA := hA.2
      clear hk
      go_wp2_with fail
      go_loopg [8, 42] (-f).toNat (fun g y x wr => ∃ (v : Value) (k : Nat), v = y ∧ x = .int .i64 k ∧ g = (-f).toNat - k ∧ (k = 0 ∨ (k : Int) ≤ -f) ∧ At WB wr v (sU c f.toNat ++ sD c k))
      case atStart => exact ⟨_, 0, rfl, rfl, rfl, .inl rfl, by simpa [sD] using hA⟩
      case round =>
        clear hA gA
        obtain ⟨v, k, rfl, rfl, hg, hk, hA⟩ := hrel
        have HG2 := Lib.hid hg
        clear hg
        by_cases d : (k : Int) < -f
        · have hc := (HTB.out.later hA.2).cell (6 - k) (by omega)
          obtain ⟨S, hS⟩ : ∃ z : Int, Hid (z = sh ((6 - k : Nat) : Int)) := ⟨_, rfl⟩
          rw [← hS.out] at hc
          have HSB := Lib.hid (show 0 ≤ S ∧ S ≤ 6 by rw [hS.out]; exact sh_bd _)
          obtain ⟨X, hX⟩ : ∃ z : Int, Hid (z = plc m S q) := ⟨_, rfl⟩
          have HU := Lib.hid (show sU c f.toNat ++ sD c (k + 1) = (sU c f.toNat ++ sD c k) ++ [X] by rw [sD_succ, hX.out, hS.out, hm.out, hq.out, show (((6 - k : Nat) : Nat) : Int) = 6 - (k : Int) by omega, List.append_assoc])
          have hl : (sU c f.toNat ++ sD c k).length = k := by rw [List.length_append, sU_len, sD_len]; omega
          have y0 := hA.2.at z0
          have y1 := hA.2.at z1
          have y2 := hA.2.at z2
          have y3 := hA.2.at z3
          have y4 := hA.2.at z4
          have y5 := hA.2.at z5
          have y6 := hA.2.at z6
          have HA := Lib.hid hA
          have hsz := hA.2.size
          clear hA hk
          have b1 : (0 : Int) ≤ 6 - (k : Int) := by omega
          have b2 : 6 - (k : Int) < 7 := by omega
          have b4 : (k : Int) ≤ 6 := by omega
          have b5 : 6 < 7 + (k : Int) := by omega
          have b6 : (0 : Int) ≤ (k : Int) := by omega
          have b7 : (6 - (k : Int)).toNat = 6 - k := by omega
          have b3 := IntWalk.i64_in (6 - (k : Int)) (by omega)
          have qk := IntWalk.i64_in ((k : Int) + 1) (by omega)
          go_wp2_with fail
          go_region_held3 (fun w' => w'.cell? ⟨w1.heap.size, 0, none⟩ = some (.string (nm c)) ∧ w'.cell? ⟨w1.heap.size, 1, none⟩ = some (.int .u8 (lt c)) ∧ w'.cell? ⟨w1.heap.size, 2, none⟩ = some (.int .i64 (li c)) ∧ w'.cell? ⟨w1.heap.size, 3, none⟩ = some (.int .i64 (oc c)) ∧ w'.cell? ⟨w1.heap.size, 4, none⟩ = some (.int .i64 m) ∧ w'.cell? ⟨w1.heap.size, 5, none⟩ = some (.int .i64 p) ∧ w'.cell? ⟨w1.heap.size, 6, none⟩ = some (.int .i64 q) ∧ w'.cell? ⟨0, 6 - k, none⟩ = some (.int .i64 S))
            (first | (with_reducible assumption) | ((try dsimp only); (repeat' (with_reducible apply And.intro)) <;> go_simp))
            (first
              | (go_at_call 37; ((with_reducible refine (place_any _ _ _ _ _ _ _ _ _ _ HM.out HQ.out HSB.out).mono ?_); rintro e w9 ⟨rfl, hG9⟩; rw [← hX.out]; have gc : G wr w9 := G.trans (by (repeat' (first | (with_reducible exact G.refl _) | (with_reducible refine G.drewN ?_ _) | (with_reducible refine G.drew ?_) | (with_reducible refine G.alloc ?_ _)))) hG9; have hA9 := HA.out.later gc; have y0' := gc.at y0; have y1' := gc.at y1; have y2' := gc.at y2; have y3' := gc.at y3; have y4' := gc.at y4; have y5' := gc.at y5; have y6' := gc.at y6; have hc' := gc.at hc; have hs9 := hA9.2.size))
              | (refine step_append_lies _ rfl _ _ 41 rfl WB.heap.size 3 i0 (.int .i64 0) 1 8 Tryd.underlying41 hi hz0 hz1 hz2 rfl (by decide) v (sU c f.toNat ++ sD c k).length (ints (sU c f.toNat ++ sD c k)) rfl (own_later hA9.1 (by (repeat' (first | (with_reducible exact G.refl _) | (with_reducible assumption) | (with_reducible refine G.drewN ?_ _) | (with_reducible refine G.drew ?_) | (with_reducible refine G.alloc ?_ _) | (with_reducible refine G.setCell ?_ (by first | (with_reducible exact Nat.le_refl _) | (simp; done) | (simp; omega) | omega) _) | (with_reducible refine G.trans ?_ (by assumption)))))) ⟨w9.heap.size, 0, none⟩ 1 1 [.int .i64 X] rfl rfl (cell_one_new _ _ _ _ (by simp)) (by simp [Value.oneCell']) (by omega) (by unfold maxLen; omega) (by omega) (by simp; omega) _ rfl ?_; intro gb cap2 w8 hown' hgrow _ _; have hA5 := At.more hA9 hown' hgrow; have y0'' := hA5.2.at z0; have y1'' := hA5.2.at z1; have y2'' := hA5.2.at z2; have y3'' := hA5.2.at z3; have y4'' := hA5.2.at z4; have y5'' := hA5.2.at z5; have y6'' := hA5.2.at z6; have hc'' := (HTB.out.later hA5.2).cell (6 - k) (by omega); rw [← hS.out] at hc''))
          all_goals
            go_wp2_with fail
            go_roundg ((-f).toNat - (k + 1))
            case measure => have := HG2.out; omega
            case rel => exact ⟨_, k + 1, rfl, by go_num, rfl, .inr (by omega), by rw [HU.out]; rw [hl] at hA5; exact hA5⟩
        · obtain rfl : k = (-f).toNat := by omega
          have HL := Lib.hid (show sgL c f = sU c f.toNat ++ sD c (-f).toNat from rfl)
          go_wp2_with fail
          go_returns
          exact ⟨v, rfl, by rw [HL.out]; exact hA.base gWB⟩
end Go.Proofs.YtnakfeamimeioaaDoor
