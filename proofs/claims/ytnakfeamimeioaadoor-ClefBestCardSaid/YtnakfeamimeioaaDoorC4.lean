import Derived.Test.YtnakfeamimeioaaDoorC3
import Derived.Test.YtnakfeamimeioaaDoorRef1
/-! The reference's Ledger, Valid, Clefs, Position; the error of a clef. -/
namespace Go.Proofs.YtnakfeamimeioaaDoor
open Go.RowKit
attribute [local go_sem] World.cell?_alloc_some

theorem rLedger_out (p : Int) (w : World) (h : p < -200 ∨ 200 < p) : Calls Tryd.prog 23 #[.int .i64 p] w fun e w' => e = .returned (.slice none 0 0) ∧ w = w' := by
  rcases h with h | h
  · go_enter Tryd.func23, Tryd.ntmps23
    go_wp2_with fail
    go_ret
    exact ⟨rfl, rfl⟩
  · have h2 : ¬ p < -200 := by omega
    go_enter Tryd.func23, Tryd.ntmps23
    go_wp2_with fail
    go_ret
    exact ⟨rfl, rfl⟩

set_option maxRecDepth 100000 in
set_option maxHeartbeats 4000000 in
theorem rLedger_in (p : Int) (w : World) (h0 : -200 ≤ p) (h1 : p ≤ 200) : Calls Tryd.prog 23 #[.int .i64 p] w fun e w' => ∃ v, e = .returned v ∧ At w w' v (lgL p) := by
  obtain ⟨i0, hi, hz0, hz1, hz2⟩ := info_parts' iInfo
  go_enter Tryd.func23, Tryd.ntmps23
  go_wp2_with fail
  go_loopg [3, 4] (nU p) (fun g y x wr => ∃ (v : Value) (k : Nat) (z : Int), v = y ∧ x = .int .i64 z ∧ Hid (z = 6 + 2 * (k : Int)) ∧ g = nU p - k ∧ k ≤ nU p ∧ At w wr v (up k))
  case atStart => exact ⟨_, 0, 6, rfl, rfl, Lib.hid rfl, rfl, by omega, At.nil w⟩
  case round =>
    obtain ⟨v, k, z, rfl, rfl, hz, hg, hk, hA⟩ := hrel
    have HG := Lib.hid hg
    have hze := hz.out
    have hkb : k ≤ 98 := by unfold nU at hk; omega
    clear hg
    by_cases c : z ≤ p
    · have hk2 := Lib.hid (show k + 1 ≤ nU p by unfold nU; omega)
      have HU := Lib.hid (show up (k + 1) = up k ++ [z] by rw [up_succ, hze])
      have hl := up_len k
      have HA := Lib.hid hA
      have hsz := hA.2.size
      have q := IntWalk.i64_in (z + 2) (by omega)
      have HZ2 := Lib.hid (show z + 2 = 6 + 2 * ((k + 1 : Nat) : Int) by omega)
      clear hA hze hk
      go_wp2_with (at_builtin; refine wpList_append_own _ rfl _ _ 41 rfl w.heap.size 3 i0 (.int .i64 0) 1 8 Tryd.underlying41 hi hz0 hz1 hz2 rfl (by decide) v (up k).length (ints (up k)) rfl (own_later HA.out.1 (by (repeat' (first | (with_reducible exact G.refl _) | (with_reducible assumption) | (with_reducible refine G.drewN ?_ _) | (with_reducible refine G.drew ?_) | (with_reducible refine G.alloc ?_ _) | (with_reducible refine G.setCell ?_ (by first | (with_reducible exact Nat.le_refl _) | (simp; done) | (simp; omega) | omega) _) | (with_reducible refine G.trans ?_ (by assumption)))))) ⟨wr.heap.size, 0, none⟩ 1 1 [.int .i64 z] rfl rfl (cell_one_new _ _ _ _ (by simp)) (by simp [Value.oneCell']) (by unfold maxLen; omega) (by omega) (by simp; omega) ?_; intro v' w1 hown' hgrow _)
      have hA5 := At.more HA.out hown' hgrow
      go_roundg (nU p - (k + 1))
      case measure => have := HG.out; have := hk2.out; omega
      case rel => exact ⟨v', k + 1, z + 2, rfl, rfl, HZ2, rfl, hk2.out, by rw [HU.out]; exact hA5⟩
    · obtain rfl : k = nU p := by unfold nU at hk ⊢; omega
      have gA := hA.2
      clear hze
      go_wp2_with fail
      go_loopg [3, 5] (nD p) (fun g y x wr => ∃ (v : Value) (k : Nat) (z : Int), v = y ∧ x = .int .i64 z ∧ Hid (z = -6 - 2 * (k : Int)) ∧ g = nD p - k ∧ k ≤ nD p ∧ At w wr v (up (nU p) ++ dn k))
      case atStart => exact ⟨_, 0, -6, rfl, rfl, Lib.hid rfl, rfl, by omega, by simpa [dn] using hA⟩
      case round =>
        clear hA
        obtain ⟨v, k, z2, rfl, rfl, hz2', hg, hk, hA⟩ := hrel
        have HG2 := Lib.hid hg
        have hze := hz2'.out
        have hkb2 : k ≤ 98 := by unfold nD at hk; omega
        clear hg
        by_cases c2 : p ≤ z2
        · have hk2 := Lib.hid (show k + 1 ≤ nD p by unfold nD; omega)
          have HU := Lib.hid (show up (nU p) ++ dn (k + 1) = (up (nU p) ++ dn k) ++ [z2] by rw [dn_succ, hze, List.append_assoc])
          have hl : (up (nU p) ++ dn k).length ≤ 200 := by rw [List.length_append, up_len, dn_len]; omega
          have HA := Lib.hid hA
          have hsz := hA.2.size
          have q := IntWalk.i64_in (z2 - 2) (by omega)
          have HZ2 := Lib.hid (show z2 - 2 = -6 - 2 * ((k + 1 : Nat) : Int) by omega)
          clear hA hze hk
          go_wp2_with (at_builtin; refine wpList_append_own _ rfl _ _ 41 rfl w.heap.size 3 i0 (.int .i64 0) 1 8 Tryd.underlying41 hi hz0 hz1 hz2 rfl (by decide) v (up (nU p) ++ dn k).length (ints (up (nU p) ++ dn k)) rfl (own_later HA.out.1 (by (repeat' (first | (with_reducible exact G.refl _) | (with_reducible assumption) | (with_reducible refine G.drewN ?_ _) | (with_reducible refine G.drew ?_) | (with_reducible refine G.alloc ?_ _) | (with_reducible refine G.setCell ?_ (by first | (with_reducible exact Nat.le_refl _) | (simp; done) | (simp; omega) | omega) _) | (with_reducible refine G.trans ?_ (by assumption)))))) ⟨wr.heap.size, 0, none⟩ 1 1 [.int .i64 z2] rfl rfl (cell_one_new _ _ _ _ (by simp)) (by simp [Value.oneCell']) (by unfold maxLen; omega) (by omega) (by simp; omega) ?_; intro v' w1 hown' hgrow _)
          have hA5 := At.more HA.out hown' hgrow
          go_roundg (nD p - (k + 1))
          case measure => have := HG2.out; have := hk2.out; omega
          case rel => exact ⟨v', k + 1, z2 - 2, rfl, rfl, HZ2, rfl, hk2.out, by rw [HU.out]; exact hA5⟩
        · obtain rfl : k = nD p := by unfold nD at hk ⊢; omega
          have HL := Lib.hid (lgL_in h0 h1)
          clear hze
          go_wp2_with fail
          go_ret
          exact ⟨v, rfl, by rw [HL.out]; exact hA⟩

set_option maxHeartbeats 800000 in
theorem rValid_any (c : Int) (w : World) : Calls Tryd.prog 19 #[.int .i64 c] w fun e w' => e = .returned (.bool (decide (Cf c))) ∧ w = w' := by
  by_cases h : c < 1
  · rw [decide_eq_false (show ¬ Cf c from fun k => by unfold Cf at k; omega)]
    go_enter Tryd.func19, Tryd.ntmps19
    go_wp2_with fail
    go_ret
    exact ⟨rfl, rfl⟩
  by_cases h2 : 9 < c
  · rw [decide_eq_false (show ¬ Cf c from fun k => by unfold Cf at k; omega)]
    go_enter Tryd.func19, Tryd.ntmps19
    go_wp2_with fail
    go_ret
    exact ⟨by first | rfl | (simp; omega), rfl⟩
  · rw [decide_eq_true (show Cf c by unfold Cf; omega)]
    go_enter Tryd.func19, Tryd.ntmps19
    go_wp2_with fail
    go_ret
    exact ⟨by first | rfl | (simp; omega), rfl⟩

theorem kind_any (c : Int) (w : World) : Calls Tryd.prog 14 #[.int .i64 c] w fun e w' => e = .returned (.int .i64 (ck c)) ∧ w = w' := by
  by_cases h : Cf c
  · rw [ck_ok h]
    have H := Lib.hid (decide_eq_true h)
    clear h
    go_enter Tryd.func14, Tryd.ntmps14
    go_wp2_with fail
    refine (rValid_any c _).mono ?_
    rintro e w1 ⟨rfl, rfl⟩
    rw [H.out]
    go_wp2_with fail
    go_ret
    exact ⟨rfl, rfl⟩
  · rw [ck_bad h]
    have H := Lib.hid (decide_eq_false h)
    clear h
    go_enter Tryd.func14, Tryd.ntmps14
    go_wp2_with fail
    refine (rValid_any c _).mono ?_
    rintro e w1 ⟨rfl, rfl⟩
    rw [H.out]
    go_wp2_with fail
    go_ret
    exact ⟨rfl, rfl⟩

/-- the reference's table of clefs lies in a block -/
def RC (g : Nat) (w : World) : Prop := ∀ c : Int, Cf c → w.cell? ⟨g, (c.toNat - 1) * 7, none⟩ = some (.string (nm c)) ∧ w.cell? ⟨g, (c.toNat - 1) * 7 + 1, none⟩ = some (.int .u8 (lt c)) ∧ w.cell? ⟨g, (c.toNat - 1) * 7 + 2, none⟩ = some (.int .i64 (li c)) ∧ w.cell? ⟨g, (c.toNat - 1) * 7 + 3, none⟩ = some (.int .i64 (oc c)) ∧ w.cell? ⟨g, (c.toNat - 1) * 7 + 4, none⟩ = some (.int .i64 (mid c)) ∧ w.cell? ⟨g, (c.toNat - 1) * 7 + 5, none⟩ = some (.int .i64 (shp c)) ∧ w.cell? ⟨g, (c.toNat - 1) * 7 + 6, none⟩ = some (.int .i64 (flt c))
theorem RC.later {g : Nat} {a b : World} (h : RC g a) (k : G a b) : RC g b := fun c hc => by
  obtain ⟨x0, x1, x2, x3, x4, x5, x6⟩ := h c hc
  exact ⟨k.at x0, k.at x1, k.at x2, k.at x3, k.at x4, k.at x5, k.at x6⟩
theorem cell_new (w : World) (l : Array Value) (t : TypeId) (k : Nat) (v : Value) (h : l[k]? = some v) : (w.alloc (.cells l t)).cell? ⟨w.heap.size, k, none⟩ = some v := by
  rw [World.cell?_alloc_new]; exact h
theorem RC.mk (w : World) : RC w.heap.size (w.alloc (.cells #[.string ⟨#[116, 114, 101, 98, 108, 101]⟩, .int .u8 71, .int .i64 (-2), .int .i64 0, .int .i64 34, .int .i64 (-1), .int .i64 (-3), .string ⟨#[98, 97, 115, 115]⟩, .int .u8 70, .int .i64 2, .int .i64 0, .int .i64 22, .int .i64 (-3), .int .i64 (-5), .string ⟨#[97, 108, 116, 111]⟩, .int .u8 67, .int .i64 0, .int .i64 0, .int .i64 28, .int .i64 (-2), .int .i64 (-4), .string ⟨#[116, 101, 110, 111, 114]⟩, .int .u8 67, .int .i64 2, .int .i64 0, .int .i64 26, .int .i64 (-2), .int .i64 (-2), .string ⟨#[115, 111, 112, 114, 97, 110, 111]⟩, .int .u8 67, .int .i64 (-4), .int .i64 0, .int .i64 32, .int .i64 (-2), .int .i64 (-3), .string ⟨#[109, 101, 122, 122, 111, 115, 111, 112, 114, 97, 110, 111]⟩, .int .u8 67, .int .i64 (-2), .int .i64 0, .int .i64 30, .int .i64 (-2), .int .i64 (-3), .string ⟨#[98, 97, 114, 105, 116, 111, 110, 101]⟩, .int .u8 70, .int .i64 0, .int .i64 0, .int .i64 24, .int .i64 (-2), .int .i64 (-3), .string ⟨#[116, 114, 101, 98, 108, 101, 56]⟩, .int .u8 71, .int .i64 (-2), .int .i64 (-1), .int .i64 27, .int .i64 (-1), .int .i64 (-3), .string ⟨#[98, 97, 115, 115, 56]⟩, .int .u8 70, .int .i64 2, .int .i64 (-1), .int .i64 15, .int .i64 (-3), .int .i64 (-5)] 55)) := fun c hc => by
  rcases cfs hc with rfl | rfl | rfl | rfl | rfl | rfl | rfl | rfl | rfl <;> exact ⟨cell_new w _ _ _ _ rfl, cell_new w _ _ _ _ rfl, cell_new w _ _ _ _ rfl, cell_new w _ _ _ _ rfl, cell_new w _ _ _ _ rfl, cell_new w _ _ _ _ rfl, cell_new w _ _ _ _ rfl⟩
set_option maxRecDepth 20000 in
set_option maxHeartbeats 1600000 in
theorem rClefs_any (w : World) : Calls Tryd.prog 29 #[] w fun e w' => e = .returned (.slice (some ⟨w.heap.size, 0, none⟩) 9 9) ∧ RC w.heap.size w' ∧ G w w' := by
  have HR := Lib.hid (RC.mk w)
  go_enter Tryd.func29, Tryd.ntmps29
  go_wp2_with fail
  go_ret
  exact ⟨rfl, HR.out, by (repeat' (first | (with_reducible exact G.refl _) | (with_reducible assumption) | (with_reducible refine G.drewN ?_ _) | (with_reducible refine G.drew ?_) | (with_reducible refine G.alloc ?_ _) | (with_reducible refine G.setCell ?_ (by first | (with_reducible exact Nat.le_refl _) | (simp; done) | (simp; omega) | omega) _) | (with_reducible refine G.trans ?_ (by assumption))))⟩

set_option maxRecDepth 20000 in
set_option maxHeartbeats 1600000 in
theorem rPosition_any (c s a o : Int) (w : World) (hc : Cf c) (h : Inr s a o) :
    Calls Tryd.prog 17 #[.int .i64 c, .agg #[.int .i64 s, .int .i64 a, .int .i64 o]] w fun e w' => e = .returned (.int .i64 (7 * o + s - mid c)) ∧ G w w' := by
  have HC := Lib.hid hc
  have mb := mid_bd c
  obtain ⟨m, hm⟩ : ∃ z : Int, Hid (z = mid c) := ⟨_, rfl⟩
  rw [← hm.out] at mb ⊢
  obtain ⟨⟨s0, s1⟩, _, o0, o1⟩ := h
  obtain ⟨c0, c1⟩ := hc
  have q1 := IntWalk.i64_in (7 * o) (by omega)
  have q2 := IntWalk.i64_in (7 * o + s) (by omega)
  have q3 := IntWalk.i64_in (7 * o + s - m) (by omega)
  have q4 := IntWalk.i64_in (c - 1) (by omega)
  have b1 : 0 ≤ c - 1 := by omega
  have b2 : c - 1 < 9 := by omega
  have gb := G.refl (w.alloc (.cells #[.int .i64 s, .int .i64 a, .int .i64 o] 23))
  go_enter Tryd.func17, Tryd.ntmps17
  go_wp2_with fail
  refine wp_region_held_drew (S := fun w' => w'.cell? ⟨w.heap.size, 0, none⟩ = some (.int .i64 s) ∧ w'.cell? ⟨w.heap.size, 1, none⟩ = some (.int .i64 a) ∧ w'.cell? ⟨w.heap.size, 2, none⟩ = some (.int .i64 o)) (by kernel_rfl) (by ((try dsimp only); first | (with_reducible assumption) | ((repeat' (with_reducible apply And.intro)) <;> go_simp))) (fun hH0 => ?_)
  refine wpAnyH_take (i := 0) (oi := { dst := some 5, op := Go.Op.fieldAddr 23 (Go.Operand.tmp 3) 2, type := 0, pos := "ref.go:37", after := #[], guard := none }) (v := ?_) rfl (by kernel_rfl) (by kernel_rfl) (by kernel_rfl) (fun _ _ _ h => h) (Or.inl ⟨by rfl, ?_⟩) (by assumption) ?_
  rotate_left
  · (intro w hSw; (try dsimp only at hSw); go_simp) <;> (with_reducible rfl)
  simp only [Act.put, List.setIfInBounds_toArray, List.set_cons_zero, List.set_cons_succ]
  refine wpAnyH_take (i := 1) (oi := { dst := some 6, op := Go.Op.load 3 (Go.Operand.tmp 5), type := 3, pos := "ref.go:37", after := #[{ on := 0, ground := Go.Ground.data }], guard := none }) (v := ?_) rfl (by kernel_rfl) (by kernel_rfl) (by kernel_rfl) (fun _ _ _ h => h) (Or.inl ⟨by rfl, ?_⟩) (by assumption) ?_
  rotate_left
  · (intro w hSw; (try dsimp only at hSw); go_simp) <;> (with_reducible rfl)
  simp only [Act.put, List.setIfInBounds_toArray, List.set_cons_zero, List.set_cons_succ]
  refine wpAnyH_take (i := 2) (oi := { dst := some 7, op := Go.Op.binOp Go.BinOp.mul 3 (Go.Operand.const (Go.Value.int Go.IntKind.i64 7)) (Go.Operand.tmp 6) 3, type := 3, pos := "ref.go:37", after := #[{ on := 1, ground := Go.Ground.data }], guard := none }) (v := ?_) rfl (by kernel_rfl) (by kernel_rfl) (by kernel_rfl) (fun _ _ _ h => h) (Or.inl ⟨by rfl, ?_⟩) (by assumption) ?_
  rotate_left
  · (intro w hSw; (try dsimp only at hSw); go_simp) <;> (with_reducible rfl)
  simp only [Act.put, List.setIfInBounds_toArray, List.set_cons_zero, List.set_cons_succ]
  refine wpAnyH_take (i := 3) (oi := { dst := some 8, op := Go.Op.fieldAddr 23 (Go.Operand.tmp 3) 0, type := 0, pos := "ref.go:37", after := #[], guard := none }) (v := ?_) rfl (by kernel_rfl) (by kernel_rfl) (by kernel_rfl) (fun _ _ _ h => h) (Or.inl ⟨by rfl, ?_⟩) (by assumption) ?_
  rotate_left
  · (intro w hSw; (try dsimp only at hSw); go_simp) <;> (with_reducible rfl)
  simp only [Act.put, List.setIfInBounds_toArray, List.set_cons_zero, List.set_cons_succ]
  refine wpAnyH_take (i := 4) (oi := { dst := some 9, op := Go.Op.load 3 (Go.Operand.tmp 8), type := 3, pos := "ref.go:37", after := #[{ on := 3, ground := Go.Ground.data }], guard := none }) (v := ?_) rfl (by kernel_rfl) (by kernel_rfl) (by kernel_rfl) (fun _ _ _ h => h) (Or.inl ⟨by rfl, ?_⟩) (by assumption) ?_
  rotate_left
  · (intro w hSw; (try dsimp only at hSw); go_simp) <;> (with_reducible rfl)
  simp only [Act.put, List.setIfInBounds_toArray, List.set_cons_zero, List.set_cons_succ]
  refine wpAnyH_take (i := 5) (oi := { dst := some 10, op := Go.Op.binOp Go.BinOp.add 3 (Go.Operand.tmp 7) (Go.Operand.tmp 9) 3, type := 3, pos := "ref.go:37", after := #[{ on := 2, ground := Go.Ground.data }, { on := 4, ground := Go.Ground.data }], guard := none }) (v := ?_) rfl (by kernel_rfl) (by kernel_rfl) (by kernel_rfl) (fun _ _ _ h => h) (Or.inl ⟨by rfl, ?_⟩) (by assumption) ?_
  rotate_left
  · (intro w hSw; (try dsimp only at hSw); go_simp) <;> (with_reducible rfl)
  simp only [Act.put, List.setIfInBounds_toArray, List.set_cons_zero, List.set_cons_succ]
  refine wpAnyH_take (i := 7) (oi := { dst := some 12, op := Go.Op.move (Go.Operand.tmp 0), type := 3, pos := "ref.go:37", after := #[], guard := none }) (v := ?_) rfl (by kernel_rfl) (by kernel_rfl) (by kernel_rfl) (fun _ _ _ h => h) (Or.inl ⟨by rfl, ?_⟩) (by assumption) ?_
  rotate_left
  · (intro w hSw; (try dsimp only at hSw); go_simp) <;> (with_reducible rfl)
  simp only [Act.put, List.setIfInBounds_toArray, List.set_cons_zero, List.set_cons_succ]
  refine wpAnyH_take (i := 8) (oi := { dst := some 13, op := Go.Op.binOp Go.BinOp.sub 3 (Go.Operand.tmp 12) (Go.Operand.const (Go.Value.int Go.IntKind.i64 1)) 3, type := 3, pos := "ref.go:37", after := #[{ on := 7, ground := Go.Ground.data }], guard := none }) (v := ?_) rfl (by kernel_rfl) (by kernel_rfl) (by kernel_rfl) (fun _ _ _ h => h) (Or.inl ⟨by rfl, ?_⟩) (by assumption) ?_
  rotate_left
  · (intro w hSw; (try dsimp only at hSw); go_simp) <;> (with_reducible rfl)
  simp only [Act.put, List.setIfInBounds_toArray, List.set_cons_zero, List.set_cons_succ]
  refine wpAnyH_ready (rs := [6]) (by kernel_rfl) (by simp) ?_
  refine AllReadyH.cons (o := { dst := some 11, op := Go.Op.call { callee := Go.Callee.value (Go.Operand.func 29), args := #[], argTypes := #[] }, type := 52, pos := "ref.go:37", after := #[], guard := none }) rfl (fun K hK => ?_) AllReadyH.nil
  go_simp
  go_at_call 29
  refine (rClefs_any _).mono ?_
  rintro e w1 ⟨rfl, hR, hG⟩
  obtain ⟨_, _, _, _, x4, _, _⟩ := hR c HC.out
  rw [← hm.out] at x4
  replace x4 : w1.cell? ⟨w.heap.size + 1, (c.toNat - 1) * 7 + 4, none⟩ = some (.int .i64 m) := by simpa using x4
  have gq := gb.trans (G.trans (by (repeat' (first | (with_reducible exact G.refl _) | (with_reducible refine G.drewN ?_ _) | (with_reducible refine G.drew ?_) | (with_reducible refine G.alloc ?_ _)))) hG)
  clear gb
  have gb := gq
  obtain ⟨y0, y1, y2⟩ := tri_later gb
  refine hK.out _ _ (by ((try dsimp only); first | (with_reducible assumption) | ((repeat' (with_reducible apply And.intro)) <;> go_simp))) (fun hH1 => ?_)
  clear hK K hH0
  refine wpAnyH_take (i := 9) (oi := { dst := some 14, op := Go.Op.indexAddr 52 (Go.Operand.tmp 11) (Go.Operand.tmp 13), type := 0, pos := "ref.go:37", after := #[{ on := 6, ground := Go.Ground.data }, { on := 8, ground := Go.Ground.data }], guard := none }) (v := ?_) rfl (by kernel_rfl) (by kernel_rfl) (by kernel_rfl) (fun _ _ _ h => h) (Or.inl ⟨by rfl, ?_⟩) (by assumption) ?_
  rotate_left
  · (intro w hSw; (try dsimp only at hSw); go_simp) <;> (with_reducible rfl)
  simp only [Act.put, List.setIfInBounds_toArray, List.set_cons_zero, List.set_cons_succ]
  refine wpAnyH_take (i := 10) (oi := { dst := some 15, op := Go.Op.fieldAddr 55 (Go.Operand.tmp 14) 4, type := 0, pos := "ref.go:37", after := #[{ on := 9, ground := Go.Ground.data }], guard := none }) (v := ?_) rfl (by kernel_rfl) (by kernel_rfl) (by kernel_rfl) (fun _ _ _ h => h) (Or.inl ⟨by rfl, ?_⟩) (by assumption) ?_
  rotate_left
  · (intro w hSw; (try dsimp only at hSw); go_simp) <;> (with_reducible rfl)
  simp only [Act.put, List.setIfInBounds_toArray, List.set_cons_zero, List.set_cons_succ]
  refine wpAnyH_ready (rs := [11]) (by kernel_rfl) (by simp) ?_
  refine AllReadyH.cons (o := { dst := some 16, op := Go.Op.load 3 (Go.Operand.tmp 15), type := 3, pos := "ref.go:37", after := #[{ on := 10, ground := Go.Ground.data }], guard := none }) rfl (fun K hK => ?_) AllReadyH.nil
  go_simp
  refine hK.out _ _ (by ((try dsimp only); first | (with_reducible assumption) | ((repeat' (with_reducible apply And.intro)) <;> go_simp))) (fun _ => ?_)
  clear hK K
  refine wpAnyH_take (i := 12) (oi := { dst := some 17, op := Go.Op.binOp Go.BinOp.sub 3 (Go.Operand.tmp 10) (Go.Operand.tmp 16) 3, type := 3, pos := "ref.go:37", after := #[{ on := 5, ground := Go.Ground.data }, { on := 11, ground := Go.Ground.data }], guard := none }) (v := ?_) rfl (by kernel_rfl) (by kernel_rfl) (by kernel_rfl) (fun _ _ _ h => h) (Or.inl ⟨by rfl, ?_⟩) (by assumption) ?_
  rotate_left
  · (intro w hSw; (try dsimp only at hSw); go_simp) <;> (with_reducible rfl)
  simp only [Act.put, List.setIfInBounds_toArray, List.set_cons_zero, List.set_cons_succ]
  refine wpAnyH_take (i := 13) (oi := { dst := some 4, op := Go.Op.assign (Go.Operand.tmp 17), type := 3, pos := "ref.go:37", after := #[{ on := 12, ground := Go.Ground.data }, { on := 6, ground := Go.Ground.chain }, { on := 0, ground := Go.Ground.phase }, { on := 1, ground := Go.Ground.phase }, { on := 2, ground := Go.Ground.phase }, { on := 3, ground := Go.Ground.phase }, { on := 4, ground := Go.Ground.phase }, { on := 5, ground := Go.Ground.phase }, { on := 6, ground := Go.Ground.phase }, { on := 7, ground := Go.Ground.phase }, { on := 8, ground := Go.Ground.phase }, { on := 9, ground := Go.Ground.phase }, { on := 10, ground := Go.Ground.phase }, { on := 11, ground := Go.Ground.phase }, { on := 12, ground := Go.Ground.phase }], guard := none }) (v := ?_) rfl (by kernel_rfl) (by kernel_rfl) (by kernel_rfl) (fun _ _ _ h => h) (Or.inl ⟨by rfl, ?_⟩) (by assumption) ?_
  rotate_left
  · (intro w hSw; (try dsimp only at hSw); go_simp) <;> (with_reducible rfl)
  simp only [Act.put, List.setIfInBounds_toArray, List.set_cons_zero, List.set_cons_succ]
  refine wpAnyH_done (by kernel_rfl) ?_ _
  go_wp2_with fail
  go_ret
  exact ⟨by first | rfl | simp, by (repeat' (first | (with_reducible exact G.refl _) | (with_reducible assumption) | (with_reducible refine G.drewN ?_ _) | (with_reducible refine G.drew ?_) | (with_reducible refine G.alloc ?_ _) | (with_reducible refine G.setCell ?_ (by first | (with_reducible exact Nat.le_refl _) | (simp; done) | (simp; omega) | omega) _) | (with_reducible refine G.trans ?_ (by assumption))))⟩
end Go.Proofs.YtnakfeamimeioaaDoor
