/- SpannerCovers: for any up to 20 spans, any kind, any place and any measure, Shift, Covering and Crossing return what the spans say; the arguments read as before; no further condition than the laid table. -/
import Derived.Test.YtgepjpbdfjcaaaaDoorRows
import Derived.Test.YtgepjpbdfjcaaaaDoorKnown
import Derived.Test.YtgepjpbdfjcaaaaDoorS13
import Derived.Test.YtgepjpbdfjcaaaaDoorS17
import Derived.Test.YtgepjpbdfjcaaaaDoorS19
import Derived.Test.YtgepjpbdfjcaaaaDoorS20
import Derived.Test.YtgepjpbdfjcaaaaDoorLaid
namespace Go.Proofs.YtgepjpbdfjcaaaaDoor
open Go.RowKit Go.ChangeShapes Go.WideShapes
attribute [local go_sem] World.cell?_alloc_some

set_option maxRecDepth 100000 in
set_option maxHeartbeats 25600000 in
theorem covers_loop (a : Option Addr) (l : List Sp) (n c : Nat) (K : Int) (p : Pl) (w : World) (hn : l.length = n) (hl : n ≤ 20) (h1 : SpsAt w a l) (hT : Tab w) :
    Calls Tryd.prog 9 #[.slice a n c, .int .i64 K, .agg #[.int .i64 p.m, .int .i64 p.a, .int .i64 p.s, .int .i64 p.v]] w fun e w' => e = .returned (.bool true) ∧ G w w' := by
  have HT := Lib.hid hT
  have H1 := Lib.hid h1
  have HN := Lib.hid hn
  have HK := Lib.hid hl
  have m0 : (n : Int) ≤ 20 := by omega
  have m00 : ¬ (20 < (n : Int)) := by omega
  obtain ⟨nC, hnC⟩ : ∃ z : Nat, Hid ((idx (covP K p) l 0).length = z) := ⟨_, rfl⟩
  obtain ⟨nX, hnX⟩ : ∃ z : Nat, Hid ((idx (crsP p.m) l 0).length = z) := ⟨_, rfl⟩
  obtain ⟨Sv, hS⟩ : ∃ z : Int, Hid (z = shS p l) := ⟨_, rfl⟩
  clear hT h1 hn hl
  have gw : ∀ {W : World}, G (w.alloc (.cells #[.int .i64 p.m, .int .i64 p.a, .int .i64 p.s, .int .i64 p.v] 23)) W → G w W := fun g => G.trans (G.alloc (G.refl w) _) g
  go_enter Tryd.func9, Tryd.ntmps9
  go_wp2_with fail
  refine (known_any _ (HT.out.later (by (repeat' (first | (with_reducible exact G.refl _) | (with_reducible assumption) | (with_reducible refine G.drewN ?_ _) | (with_reducible refine G.drew ?_) | (with_reducible refine G.alloc ?_ _) | (with_reducible refine G.setCell ?_ (by first | (with_reducible exact Nat.le_refl _) | (simp; done) | (simp; omega) | omega) _) | (with_reducible refine G.trans ?_ (by assumption))))))).mono ?_
  rintro e w1 ⟨rfl, hG1⟩
  have gp := hG1
  obtain ⟨z0, z1, z2, z3⟩ := B4.made rfl gp
  go_wp2_with fail
  refine wp_region_held_drew (S := fun w' => w'.cell? ⟨w.heap.size, 0, none⟩ = some (.int .i64 p.m) ∧ w'.cell? ⟨w.heap.size, 1, none⟩ = some (.int .i64 p.a) ∧ w'.cell? ⟨w.heap.size, 2, none⟩ = some (.int .i64 p.s) ∧ w'.cell? ⟨w.heap.size, 3, none⟩ = some (.int .i64 p.v)) (by kernel_rfl) (by ((try dsimp only); first | (with_reducible assumption) | ((repeat' (with_reducible apply And.intro)) <;> go_simp))) (fun hH0 => ?_)
  refine wpAnyH_take (i := 0) (oi := { dst := some 20, op := Go.Op.move (Go.Operand.tmp 0), type := 40, pos := "law.go:126", after := #[], guard := none }) (v := ?_) rfl (by kernel_rfl) (by kernel_rfl) (by kernel_rfl) (fun _ _ _ h => h) (Or.inl ⟨by rfl, ?_⟩) (by assumption) ?_
  rotate_left
  · (intro w hSw; (try dsimp only at hSw); go_simp) <;> (with_reducible rfl)
  simp only [Act.put, List.setIfInBounds_toArray, List.set_cons_zero, List.set_cons_succ]
  refine wpAnyH_take (i := 2) (oi := { dst := some 22, op := Go.Op.move (Go.Operand.tmp 1), type := 3, pos := "law.go:126", after := #[], guard := none }) (v := ?_) rfl (by kernel_rfl) (by kernel_rfl) (by kernel_rfl) (fun _ _ _ h => h) (Or.inl ⟨by rfl, ?_⟩) (by assumption) ?_
  rotate_left
  · (intro w hSw; (try dsimp only at hSw); go_simp) <;> (with_reducible rfl)
  simp only [Act.put, List.setIfInBounds_toArray, List.set_cons_zero, List.set_cons_succ]
  refine wpAnyH_take (i := 3) (oi := { dst := some 23, op := Go.Op.load 23 (Go.Operand.tmp 5), type := 23, pos := "law.go:126", after := #[], guard := none }) (v := ?_) rfl (by kernel_rfl) (by kernel_rfl) (by kernel_rfl) (fun _ _ _ h => h) (Or.inl ⟨by rfl, ?_⟩) (by assumption) ?_
  rotate_left
  · (intro w hSw; (try dsimp only at hSw); go_simp) <;> (with_reducible rfl)
  simp only [Act.put, List.setIfInBounds_toArray, List.set_cons_zero, List.set_cons_succ]
  refine wpAnyH_take (i := 6) (oi := { dst := some 26, op := Go.Op.move (Go.Operand.tmp 0), type := 40, pos := "law.go:126", after := #[], guard := none }) (v := ?_) rfl (by kernel_rfl) (by kernel_rfl) (by kernel_rfl) (fun _ _ _ h => h) (Or.inl ⟨by rfl, ?_⟩) (by assumption) ?_
  rotate_left
  · (intro w hSw; (try dsimp only at hSw); go_simp) <;> (with_reducible rfl)
  simp only [Act.put, List.setIfInBounds_toArray, List.set_cons_zero, List.set_cons_succ]
  refine wpAnyH_take (i := 8) (oi := { dst := some 28, op := Go.Op.fieldAddr 23 (Go.Operand.tmp 5) 0, type := 0, pos := "law.go:126", after := #[], guard := none }) (v := ?_) rfl (by kernel_rfl) (by kernel_rfl) (by kernel_rfl) (fun _ _ _ h => h) (Or.inl ⟨by rfl, ?_⟩) (by assumption) ?_
  rotate_left
  · (intro w hSw; (try dsimp only at hSw); go_simp) <;> (with_reducible rfl)
  simp only [Act.put, List.setIfInBounds_toArray, List.set_cons_zero, List.set_cons_succ]
  refine wpAnyH_take (i := 9) (oi := { dst := some 29, op := Go.Op.load 3 (Go.Operand.tmp 28), type := 3, pos := "law.go:126", after := #[{ on := 8, ground := Go.Ground.data }], guard := none }) (v := ?_) rfl (by kernel_rfl) (by kernel_rfl) (by kernel_rfl) (fun _ _ _ h => h) (Or.inl ⟨by rfl, ?_⟩) (by assumption) ?_
  rotate_left
  · (intro w hSw; (try dsimp only at hSw); go_simp) <;> (with_reducible rfl)
  simp only [Act.put, List.setIfInBounds_toArray, List.set_cons_zero, List.set_cons_succ]
  refine wpAnyH_ready (rs := [1]) (by kernel_rfl) (by simp) ?_
  refine (AllReadyH.cons (o := { dst := some 21, op := Go.Op.call { callee := Go.Callee.value (Go.Operand.func 23), args := #[Go.Operand.tmp 20], argTypes := #[40] }, type := 43, pos := "law.go:126", after := #[{ on := 0, ground := Go.Ground.data }], guard := none }) rfl (fun Kc hKc => ?_) AllReadyH.nil)
  go_simp
  go_at_call 23
  refine (list_any a l n c _ HN.out HK.out (H1.out.later (gw (gp.trans (by (repeat' (first | (with_reducible exact G.refl _) | (with_reducible refine G.drewN ?_ _) | (with_reducible refine G.drew ?_) | (with_reducible refine G.alloc ?_ _)))))))).mono ?_
  rintro e w3 ⟨v3, rfl, hR3, hG3⟩
  have gq := gp.trans (G.trans (by (repeat' (first | (with_reducible exact G.refl _) | (with_reducible refine G.drewN ?_ _) | (with_reducible refine G.drew ?_) | (with_reducible refine G.alloc ?_ _)))) hG3)
  clear gp
  have gp := gq
  clear gq
  clear z0 z1 z2 z3
  obtain ⟨z0, z1, z2, z3⟩ := B4.made rfl gp
  obtain ⟨a3, c3, rfl, hc3, hT3⟩ := hR3.sps
  have HT3 := Lib.hid hT3
  rw [HN.out]
  clear hR3 hT3 hc3
  refine hKc.out _ _ (by ((try dsimp only); first | (with_reducible assumption) | ((repeat' (with_reducible apply And.intro)) <;> go_simp))) (fun hH1 => ?_)
  clear hKc Kc hH0
  refine wpAnyH_ready (rs := [4]) (by kernel_rfl) (by simp) ?_
  refine (AllReadyH.cons (o := { dst := some 24, op := Go.Op.call { callee := Go.Callee.value (Go.Operand.func 18), args := #[Go.Operand.tmp 23], argTypes := #[23] }, type := 29, pos := "law.go:126", after := #[{ on := 3, ground := Go.Ground.data }, { on := 1, ground := Go.Ground.chain }], guard := none }) rfl (fun Kc hKc => ?_) AllReadyH.nil)
  go_simp
  go_at_call 18
  refine (place_any p _).mono ?_
  rintro e w4 ⟨rfl, hG4⟩
  have gq := gp.trans (G.trans (by (repeat' (first | (with_reducible exact G.refl _) | (with_reducible refine G.drewN ?_ _) | (with_reducible refine G.drew ?_) | (with_reducible refine G.alloc ?_ _)))) hG4)
  clear gp
  have gp := gq
  clear gq
  clear z0 z1 z2 z3
  obtain ⟨z0, z1, z2, z3⟩ := B4.made rfl gp
  refine hKc.out _ _ (by ((try dsimp only); first | (with_reducible assumption) | ((repeat' (with_reducible apply And.intro)) <;> go_simp))) (fun hH2 => ?_)
  clear hKc Kc hH1
  refine wpAnyH_ready (rs := [5]) (by kernel_rfl) (by simp) ?_
  refine (AllReadyH.cons (o := { dst := some 25, op := Go.Op.call { callee := Go.Callee.value (Go.Operand.func 29), args := #[Go.Operand.tmp 21, Go.Operand.tmp 22, Go.Operand.tmp 24], argTypes := #[43, 3, 29] }, type := 51, pos := "law.go:126", after := #[{ on := 1, ground := Go.Ground.data }, { on := 2, ground := Go.Ground.data }, { on := 4, ground := Go.Ground.data }, { on := 4, ground := Go.Ground.chain }], guard := none }) rfl (fun Kc hKc => ?_) AllReadyH.nil)
  go_simp
  go_at_call 29
  refine (Covering_any a3 l n c3 p K _ HN.out HK.out (HT3.out.later (show G w3 _ by (repeat' (first | (with_reducible exact G.refl _) | (with_reducible assumption) | (with_reducible refine G.drewN ?_ _) | (with_reducible refine G.drew ?_) | (with_reducible refine G.alloc ?_ _) | (with_reducible refine G.setCell ?_ (by first | (with_reducible exact Nat.le_refl _) | (simp; done) | (simp; omega) | omega) _) | (with_reducible refine G.trans ?_ (by assumption))))))).mono ?_
  rintro e w5 ⟨v5, rfl, hR5, hG5⟩
  have gq := gp.trans (G.trans (by (repeat' (first | (with_reducible exact G.refl _) | (with_reducible refine G.drewN ?_ _) | (with_reducible refine G.drew ?_) | (with_reducible refine G.alloc ?_ _)))) hG5)
  clear gp
  have gp := gq
  clear gq
  clear z0 z1 z2 z3
  obtain ⟨z0, z1, z2, z3⟩ := B4.made rfl gp
  obtain ⟨a5, c5, rfl, hT5⟩ := hR5.ints
  have HT5 := Lib.hid hT5
  rw [hnC.out]
  clear hR5 hT5
  refine hKc.out _ _ (by ((try dsimp only); first | (with_reducible assumption) | ((repeat' (with_reducible apply And.intro)) <;> go_simp))) (fun hH3 => ?_)
  clear hKc Kc hH2
  refine wpAnyH_ready (rs := [7]) (by kernel_rfl) (by simp) ?_
  refine (AllReadyH.cons (o := { dst := some 27, op := Go.Op.call { callee := Go.Callee.value (Go.Operand.func 23), args := #[Go.Operand.tmp 26], argTypes := #[40] }, type := 43, pos := "law.go:126", after := #[{ on := 6, ground := Go.Ground.data }, { on := 5, ground := Go.Ground.chain }], guard := none }) rfl (fun Kc hKc => ?_) AllReadyH.nil)
  go_simp
  go_at_call 23
  refine (list_any a l n c _ HN.out HK.out (H1.out.later (gw gp))).mono ?_
  rintro e w6 ⟨v6, rfl, hR6, hG6⟩
  have gq := gp.trans (G.trans (by (repeat' (first | (with_reducible exact G.refl _) | (with_reducible refine G.drewN ?_ _) | (with_reducible refine G.drew ?_) | (with_reducible refine G.alloc ?_ _)))) hG6)
  clear gp
  have gp := gq
  clear gq
  clear z0 z1 z2 z3
  obtain ⟨z0, z1, z2, z3⟩ := B4.made rfl gp
  obtain ⟨a6, c6, rfl, hc6, hT6⟩ := hR6.sps
  have HT6 := Lib.hid hT6
  rw [HN.out]
  clear hR6 hT6 hc6
  refine hKc.out _ _ (by ((try dsimp only); first | (with_reducible assumption) | ((repeat' (with_reducible apply And.intro)) <;> go_simp))) (fun hH4 => ?_)
  clear hKc Kc hH3
  refine wpAnyH_ready (rs := [10]) (by kernel_rfl) (by simp) ?_
  refine (AllReadyH.cons (o := { dst := some 30, op := Go.Op.call { callee := Go.Callee.value (Go.Operand.func 30), args := #[Go.Operand.tmp 27, Go.Operand.tmp 29], argTypes := #[43, 3] }, type := 51, pos := "law.go:126", after := #[{ on := 7, ground := Go.Ground.data }, { on := 9, ground := Go.Ground.data }, { on := 7, ground := Go.Ground.chain }], guard := none }) rfl (fun Kc hKc => ?_) AllReadyH.nil)
  go_simp
  go_at_call 30
  refine (Crossing_any a6 l n c6 p.m _ HN.out HK.out HT6.out).mono ?_
  rintro e w7 ⟨v7, rfl, hR7, hG7⟩
  have gq := gp.trans (G.trans (by (repeat' (first | (with_reducible exact G.refl _) | (with_reducible refine G.drewN ?_ _) | (with_reducible refine G.drew ?_) | (with_reducible refine G.alloc ?_ _)))) hG7)
  clear gp
  have gp := gq
  clear gq
  clear z0 z1 z2 z3
  obtain ⟨z0, z1, z2, z3⟩ := B4.made rfl gp
  obtain ⟨a7, c7, rfl, hT7⟩ := hR7.ints
  have HT7 := Lib.hid hT7
  rw [hnX.out]
  clear hR7 hT7
  refine hKc.out _ _ (by ((try dsimp only); first | (with_reducible assumption) | ((repeat' (with_reducible apply And.intro)) <;> go_simp))) (fun hH5 => ?_)
  clear hKc Kc hH4
  refine wpAnyH_take (i := 11) (oi := { dst := some 7, op := Go.Op.assign (Go.Operand.tmp 25), type := 51, pos := "law.go:126", after := #[{ on := 5, ground := Go.Ground.data }, { on := 10, ground := Go.Ground.chain }, { on := 0, ground := Go.Ground.phase }, { on := 1, ground := Go.Ground.phase }, { on := 2, ground := Go.Ground.phase }, { on := 3, ground := Go.Ground.phase }, { on := 4, ground := Go.Ground.phase }, { on := 5, ground := Go.Ground.phase }, { on := 6, ground := Go.Ground.textOnly Go.Departure.lateStores }, { on := 7, ground := Go.Ground.textOnly Go.Departure.lateStoresUnsure }, { on := 8, ground := Go.Ground.textOnly Go.Departure.lateStores }, { on := 9, ground := Go.Ground.textOnly Go.Departure.lateStores }, { on := 10, ground := Go.Ground.textOnly Go.Departure.lateStoresUnsure }], guard := none }) (v := ?_) rfl (by kernel_rfl) (by kernel_rfl) (by kernel_rfl) (fun _ _ _ h => h) (Or.inl ⟨by rfl, ?_⟩) (by assumption) ?_
  rotate_left
  · (intro w hSw; (try dsimp only at hSw); go_simp) <;> (with_reducible rfl)
  simp only [Act.put, List.setIfInBounds_toArray, List.set_cons_zero, List.set_cons_succ]
  refine wpAnyH_take (i := 12) (oi := { dst := some 8, op := Go.Op.assign (Go.Operand.tmp 30), type := 51, pos := "law.go:126", after := #[{ on := 10, ground := Go.Ground.data }, { on := 11, ground := Go.Ground.chain }, { on := 0, ground := Go.Ground.phase }, { on := 1, ground := Go.Ground.phase }, { on := 2, ground := Go.Ground.phase }, { on := 3, ground := Go.Ground.phase }, { on := 4, ground := Go.Ground.phase }, { on := 5, ground := Go.Ground.phase }, { on := 6, ground := Go.Ground.phase }, { on := 7, ground := Go.Ground.phase }, { on := 8, ground := Go.Ground.phase }, { on := 9, ground := Go.Ground.phase }, { on := 10, ground := Go.Ground.phase }, { on := 11, ground := Go.Ground.phase }], guard := none }) (v := ?_) rfl (by kernel_rfl) (by kernel_rfl) (by kernel_rfl) (fun _ _ _ h => h) (Or.inl ⟨by rfl, ?_⟩) (by assumption) ?_
  rotate_left
  · (intro w hSw; (try dsimp only at hSw); go_simp) <;> (with_reducible rfl)
  simp only [Act.put, List.setIfInBounds_toArray, List.set_cons_zero, List.set_cons_succ]
  refine wpAnyH_done (by kernel_rfl) ?_ _
  go_wp2_with fail
  have gp7 := gp
  have g57 : G w5 w7 := (G.trans (by (repeat' (first | (with_reducible exact G.refl _) | (with_reducible refine G.drewN ?_ _) | (with_reducible refine G.drew ?_) | (with_reducible refine G.alloc ?_ _)))) hG6).trans (G.trans (by (repeat' (first | (with_reducible exact G.refl _) | (with_reducible refine G.drewN ?_ _) | (with_reducible refine G.drew ?_) | (with_reducible refine G.alloc ?_ _)))) hG7)
  have HT5 := Lib.hid (HT5.out.later g57)
  go_loopg [9, 10, 11] n (fun q y1 y2 k wr => ∃ (j I X : Nat), y1 = .int .i64 I ∧ y2 = .int .i64 X ∧ k = .int .i64 j ∧ q = n - j ∧ j ≤ n ∧ I ≤ j ∧ X ≤ j ∧ Hid ((idx (covP K p) (l.take j) 0).length = I) ∧ Hid ((idx (crsP p.m) (l.take j) 0).length = X) ∧ Hid (G (w.alloc (.cells #[.int .i64 p.m, .int .i64 p.a, .int .i64 p.s, .int .i64 p.v] 23)) wr) ∧ Hid (G w7 wr))
  case atStart => exact ⟨0, 0, 0, rfl, rfl, rfl, rfl, by omega, by omega, by omega, Lib.hid rfl, Lib.hid rfl, Lib.hid (by (repeat' (first | (with_reducible exact G.refl _) | (with_reducible assumption) | (with_reducible refine G.drewN ?_ _) | (with_reducible refine G.drew ?_) | (with_reducible refine G.alloc ?_ _) | (with_reducible refine G.setCell ?_ (by first | (with_reducible exact Nat.le_refl _) | (simp; done) | (simp; omega) | omega) _) | (with_reducible refine G.trans ?_ (by assumption))))), Lib.hid (by (repeat' (first | (with_reducible exact G.refl _) | (with_reducible assumption) | (with_reducible refine G.drewN ?_ _) | (with_reducible refine G.drew ?_) | (with_reducible refine G.alloc ?_ _) | (with_reducible refine G.setCell ?_ (by first | (with_reducible exact Nat.le_refl _) | (simp; done) | (simp; omega) | omega) _) | (with_reducible refine G.trans ?_ (by assumption)))))⟩
  case round =>
    obtain ⟨j, I, X, rfl, rfl, rfl, hq, hj, hIj, hXj, hIe, hXe, gr, gr7⟩ := hrel
    have HQ := Lib.hid hq
    clear hq
    clear gp
    have gp := gr.out
    clear z0 z1 z2 z3
    obtain ⟨z0, z1, z2, z3⟩ := B4.made rfl gp
    by_cases hin : j < n
    · obtain ⟨x, hp⟩ : ∃ z, l[j]? = some z := ⟨l[j]'(by rw [HN.out]; exact hin), List.getElem?_eq_getElem (by rw [HN.out]; exact hin)⟩
      rcases H1.out with hz | ⟨b0, of, rfl, fc⟩
      · rw [hz] at hp; simp at hp
      have FC := Lib.hid fc
      have HP := Lib.hid hp
      obtain ⟨x0, x1, x2, x3, x4, x5, x6, x7, x8⟩ := (fc j _ hp).later (gw gp)
      have HCT := Lib.hid (idx_take (P := covP K p) hp)
      have HXT := Lib.hid (idx_take (P := crsP p.m) hp)
      have b1 : (0 : Int) ≤ (j : Int) := by omega
      have b2 : (j : Int) < (n : Int) := by omega
      have b3 : (0 : Int) ≤ (I : Int) := by omega
      have b4 : (0 : Int) ≤ (X : Int) := by omega
      have q1 := IntWalk.i64_in ((j : Int) + 1) (by omega)
      have q2 := IntWalk.i64_in ((I : Int) + 1) (by omega)
      have q3 := IntWalk.i64_in ((X : Int) + 1) (by omega)
      clear fc hp
      by_cases hk : x.k = K
      · have HKE := Lib.hid hk
        have e1 : (x.k == K) = true := beq_iff_eq.2 hk
        by_cases hcv : Cov x p
        · have HCV := Lib.hid hcv
          obtain ⟨hlC, b5, o5, hb5, hcC⟩ := HT5.out.hit (idx_hit (P := covP K p) HP.out (decide_eq_true ⟨hk, hcv⟩)) hnC.out
          rw [hIe.out] at hlC hcC
          subst hb5
          have HU5 := Lib.hid hcC
          have k5 : (I : Int) < (nC : Int) := by omega
          have k6 : ¬ ((nC : Int) ≤ (I : Int)) := by omega
          clear hlC hcC hk hcv
          go_wp2_with fail
          go_region_held3 (fun w' => w'.cell? ⟨b0, of + j * 9, none⟩ = some (.int .i64 x.k) ∧ w'.cell? ⟨b0, of + j * 9 + 1, none⟩ = some (.int .i64 x.f.m) ∧ w'.cell? ⟨b0, of + j * 9 + 2, none⟩ = some (.int .i64 x.f.a) ∧ w'.cell? ⟨b0, of + j * 9 + 3, none⟩ = some (.int .i64 x.f.s) ∧ w'.cell? ⟨b0, of + j * 9 + 4, none⟩ = some (.int .i64 x.f.v) ∧ w'.cell? ⟨b0, of + j * 9 + 5, none⟩ = some (.int .i64 x.t.m) ∧ w'.cell? ⟨b0, of + j * 9 + 6, none⟩ = some (.int .i64 x.t.a) ∧ w'.cell? ⟨b0, of + j * 9 + 7, none⟩ = some (.int .i64 x.t.s) ∧ w'.cell? ⟨b0, of + j * 9 + 8, none⟩ = some (.int .i64 x.t.v) ∧ w'.cell? ⟨w.heap.size, 0, none⟩ = some (.int .i64 p.m) ∧ w'.cell? ⟨w.heap.size, 1, none⟩ = some (.int .i64 p.a) ∧ w'.cell? ⟨w.heap.size, 2, none⟩ = some (.int .i64 p.s) ∧ w'.cell? ⟨w.heap.size, 3, none⟩ = some (.int .i64 p.v))
            (first | (with_reducible assumption) | ((try dsimp only); (repeat' (with_reducible apply And.intro)) <;> go_simp))
            ((go_at_call 25; refine (rCovers_any x p _).mono ?_; rintro e w9 ⟨rfl, hG9⟩; have gq := gp.trans (G.trans (by (repeat' (first | (with_reducible exact G.refl _) | (with_reducible refine G.drewN ?_ _) | (with_reducible refine G.drew ?_) | (with_reducible refine G.alloc ?_ _)))) hG9); clear gp; have gp := gq; clear gq; clear x0 x1 x2 x3 x4 x5 x6 x7 x8; clear z0 z1 z2 z3; obtain ⟨x0, x1, x2, x3, x4, x5, x6, x7, x8⟩ := (FC.out j _ HP.out).later (gw gp); obtain ⟨z0, z1, z2, z3⟩ := B4.made rfl gp; rw [decide_eq_true HCV.out]))
          all_goals
            skip
            have u5 := (gr7.out.trans (G.trans (by (repeat' (first | (with_reducible exact G.refl _) | (with_reducible refine G.drewN ?_ _) | (with_reducible refine G.drew ?_) | (with_reducible refine G.alloc ?_ _)))) hG9)).at HU5.out
            by_cases m1 : x.f.m ≤ p.m
            · by_cases m2 : p.m ≤ x.t.m
              · have HM1 := Lib.hid m1
                have HM2 := Lib.hid m2
                have d1 : decide (x.f.m ≤ p.m) = true := decide_eq_true m1
                have d2 : decide (p.m ≤ x.t.m) = true := decide_eq_true m2
                obtain ⟨hlX, b7, o7, hb7, hcX⟩ := HT7.out.hit (idx_hit (P := crsP p.m) HP.out (decide_eq_true ⟨m1, m2⟩)) hnX.out
                rw [hXe.out] at hlX hcX
                subst hb7
                have u7 := (gr7.out.trans (G.trans (by (repeat' (first | (with_reducible exact G.refl _) | (with_reducible refine G.drewN ?_ _) | (with_reducible refine G.drew ?_) | (with_reducible refine G.alloc ?_ _)))) hG9)).at hcX
                have k7 : (X : Int) < (nX : Int) := by omega
                have k8 : ¬ ((nX : Int) ≤ (X : Int)) := by omega
                clear hlX hcX
                skip
                go_wp2_with fail
                go_big_region
                all_goals
                  go_wp2_with fail
                  go_roundg (n - (j + 1))
                  case measure => have := HQ.out; omega
                  case rel => exact ⟨j + 1, I + 1, X + 1, by go_num, by go_num, by go_num, rfl, by omega, by omega, by omega, Lib.hid (by rw [HCT.out, if_pos (show covP K p x = true from decide_eq_true ⟨HKE.out, HCV.out⟩), List.length_append, hIe.out]; rfl), Lib.hid (by rw [HXT.out, if_pos (show crsP p.m x = true from decide_eq_true ⟨HM1.out, HM2.out⟩), List.length_append, hXe.out]; rfl), Lib.hid (by (repeat' (first | (with_reducible exact G.refl _) | (with_reducible assumption) | (with_reducible refine G.drewN ?_ _) | (with_reducible refine G.drew ?_) | (with_reducible refine G.alloc ?_ _) | (with_reducible refine G.setCell ?_ (by first | (with_reducible exact Nat.le_refl _) | (simp; done) | (simp; omega) | omega) _) | (with_reducible refine G.trans ?_ (by assumption))))), Lib.hid ((gr7.out.trans (G.trans (by (repeat' (first | (with_reducible exact G.refl _) | (with_reducible refine G.drewN ?_ _) | (with_reducible refine G.drew ?_) | (with_reducible refine G.alloc ?_ _)))) hG9)).trans (by (repeat' (first | (with_reducible exact G.refl _) | (with_reducible refine G.drewN ?_ _) | (with_reducible refine G.drew ?_) | (with_reducible refine G.alloc ?_ _)))))⟩
              · have HM1 := Lib.hid m1
                have HM2 := Lib.hid m2
                have d1 : decide (x.f.m ≤ p.m) = true := decide_eq_true m1
                have d2 : decide (p.m ≤ x.t.m) = false := decide_eq_false m2
                clear m2
                skip
                go_wp2_with fail
                go_big_region
                all_goals
                  go_wp2_with fail
                  go_roundg (n - (j + 1))
                  case measure => have := HQ.out; omega
                  case rel => exact ⟨j + 1, I + 1, X, by go_num, by go_num, by go_num, rfl, by omega, by omega, by omega, Lib.hid (by rw [HCT.out, if_pos (show covP K p x = true from decide_eq_true ⟨HKE.out, HCV.out⟩), List.length_append, hIe.out]; rfl), Lib.hid (by rw [HXT.out, if_neg (show ¬ crsP p.m x = true from fun h => absurd (of_decide_eq_true h).2 (by have := HM2.out; omega)), List.append_nil, hXe.out]), Lib.hid (by (repeat' (first | (with_reducible exact G.refl _) | (with_reducible assumption) | (with_reducible refine G.drewN ?_ _) | (with_reducible refine G.drew ?_) | (with_reducible refine G.alloc ?_ _) | (with_reducible refine G.setCell ?_ (by first | (with_reducible exact Nat.le_refl _) | (simp; done) | (simp; omega) | omega) _) | (with_reducible refine G.trans ?_ (by assumption))))), Lib.hid ((gr7.out.trans (G.trans (by (repeat' (first | (with_reducible exact G.refl _) | (with_reducible refine G.drewN ?_ _) | (with_reducible refine G.drew ?_) | (with_reducible refine G.alloc ?_ _)))) hG9)).trans (by (repeat' (first | (with_reducible exact G.refl _) | (with_reducible refine G.drewN ?_ _) | (with_reducible refine G.drew ?_) | (with_reducible refine G.alloc ?_ _)))))⟩
            · have HM1 := Lib.hid m1
              have d1 : decide (x.f.m ≤ p.m) = false := decide_eq_false m1
              clear m1
              skip
              go_wp2_with fail
              go_big_region
              all_goals
                go_wp2_with fail
                go_roundg (n - (j + 1))
                case measure => have := HQ.out; omega
                case rel => exact ⟨j + 1, I + 1, X, by go_num, by go_num, by go_num, rfl, by omega, by omega, by omega, Lib.hid (by rw [HCT.out, if_pos (show covP K p x = true from decide_eq_true ⟨HKE.out, HCV.out⟩), List.length_append, hIe.out]; rfl), Lib.hid (by rw [HXT.out, if_neg (show ¬ crsP p.m x = true from fun h => absurd (of_decide_eq_true h).1 (by have := HM1.out; omega)), List.append_nil, hXe.out]), Lib.hid (by (repeat' (first | (with_reducible exact G.refl _) | (with_reducible assumption) | (with_reducible refine G.drewN ?_ _) | (with_reducible refine G.drew ?_) | (with_reducible refine G.alloc ?_ _) | (with_reducible refine G.setCell ?_ (by first | (with_reducible exact Nat.le_refl _) | (simp; done) | (simp; omega) | omega) _) | (with_reducible refine G.trans ?_ (by assumption))))), Lib.hid ((gr7.out.trans (G.trans (by (repeat' (first | (with_reducible exact G.refl _) | (with_reducible refine G.drewN ?_ _) | (with_reducible refine G.drew ?_) | (with_reducible refine G.alloc ?_ _)))) hG9)).trans (by (repeat' (first | (with_reducible exact G.refl _) | (with_reducible refine G.drewN ?_ _) | (with_reducible refine G.drew ?_) | (with_reducible refine G.alloc ?_ _)))))⟩
        · have HCV := Lib.hid hcv
          clear hk hcv
          go_wp2_with fail
          go_region_held3 (fun w' => w'.cell? ⟨b0, of + j * 9, none⟩ = some (.int .i64 x.k) ∧ w'.cell? ⟨b0, of + j * 9 + 1, none⟩ = some (.int .i64 x.f.m) ∧ w'.cell? ⟨b0, of + j * 9 + 2, none⟩ = some (.int .i64 x.f.a) ∧ w'.cell? ⟨b0, of + j * 9 + 3, none⟩ = some (.int .i64 x.f.s) ∧ w'.cell? ⟨b0, of + j * 9 + 4, none⟩ = some (.int .i64 x.f.v) ∧ w'.cell? ⟨b0, of + j * 9 + 5, none⟩ = some (.int .i64 x.t.m) ∧ w'.cell? ⟨b0, of + j * 9 + 6, none⟩ = some (.int .i64 x.t.a) ∧ w'.cell? ⟨b0, of + j * 9 + 7, none⟩ = some (.int .i64 x.t.s) ∧ w'.cell? ⟨b0, of + j * 9 + 8, none⟩ = some (.int .i64 x.t.v) ∧ w'.cell? ⟨w.heap.size, 0, none⟩ = some (.int .i64 p.m) ∧ w'.cell? ⟨w.heap.size, 1, none⟩ = some (.int .i64 p.a) ∧ w'.cell? ⟨w.heap.size, 2, none⟩ = some (.int .i64 p.s) ∧ w'.cell? ⟨w.heap.size, 3, none⟩ = some (.int .i64 p.v))
            (first | (with_reducible assumption) | ((try dsimp only); (repeat' (with_reducible apply And.intro)) <;> go_simp))
            ((go_at_call 25; refine (rCovers_any x p _).mono ?_; rintro e w9 ⟨rfl, hG9⟩; have gq := gp.trans (G.trans (by (repeat' (first | (with_reducible exact G.refl _) | (with_reducible refine G.drewN ?_ _) | (with_reducible refine G.drew ?_) | (with_reducible refine G.alloc ?_ _)))) hG9); clear gp; have gp := gq; clear gq; clear x0 x1 x2 x3 x4 x5 x6 x7 x8; clear z0 z1 z2 z3; obtain ⟨x0, x1, x2, x3, x4, x5, x6, x7, x8⟩ := (FC.out j _ HP.out).later (gw gp); obtain ⟨z0, z1, z2, z3⟩ := B4.made rfl gp; rw [decide_eq_false HCV.out]))
          all_goals
            skip
            by_cases m1 : x.f.m ≤ p.m
            · by_cases m2 : p.m ≤ x.t.m
              · have HM1 := Lib.hid m1
                have HM2 := Lib.hid m2
                have d1 : decide (x.f.m ≤ p.m) = true := decide_eq_true m1
                have d2 : decide (p.m ≤ x.t.m) = true := decide_eq_true m2
                obtain ⟨hlX, b7, o7, hb7, hcX⟩ := HT7.out.hit (idx_hit (P := crsP p.m) HP.out (decide_eq_true ⟨m1, m2⟩)) hnX.out
                rw [hXe.out] at hlX hcX
                subst hb7
                have u7 := (gr7.out.trans (G.trans (by (repeat' (first | (with_reducible exact G.refl _) | (with_reducible refine G.drewN ?_ _) | (with_reducible refine G.drew ?_) | (with_reducible refine G.alloc ?_ _)))) hG9)).at hcX
                have k7 : (X : Int) < (nX : Int) := by omega
                have k8 : ¬ ((nX : Int) ≤ (X : Int)) := by omega
                clear hlX hcX
                skip
                go_wp2_with fail
                go_big_region
                all_goals
                  go_wp2_with fail
                  go_roundg (n - (j + 1))
                  case measure => have := HQ.out; omega
                  case rel => exact ⟨j + 1, I, X + 1, by go_num, by go_num, by go_num, rfl, by omega, by omega, by omega, Lib.hid (by rw [HCT.out, if_neg (show ¬ covP K p x = true from fun h => HCV.out (of_decide_eq_true h).2), List.append_nil, hIe.out]), Lib.hid (by rw [HXT.out, if_pos (show crsP p.m x = true from decide_eq_true ⟨HM1.out, HM2.out⟩), List.length_append, hXe.out]; rfl), Lib.hid (by (repeat' (first | (with_reducible exact G.refl _) | (with_reducible assumption) | (with_reducible refine G.drewN ?_ _) | (with_reducible refine G.drew ?_) | (with_reducible refine G.alloc ?_ _) | (with_reducible refine G.setCell ?_ (by first | (with_reducible exact Nat.le_refl _) | (simp; done) | (simp; omega) | omega) _) | (with_reducible refine G.trans ?_ (by assumption))))), Lib.hid ((gr7.out.trans (G.trans (by (repeat' (first | (with_reducible exact G.refl _) | (with_reducible refine G.drewN ?_ _) | (with_reducible refine G.drew ?_) | (with_reducible refine G.alloc ?_ _)))) hG9)).trans (by (repeat' (first | (with_reducible exact G.refl _) | (with_reducible refine G.drewN ?_ _) | (with_reducible refine G.drew ?_) | (with_reducible refine G.alloc ?_ _)))))⟩
              · have HM1 := Lib.hid m1
                have HM2 := Lib.hid m2
                have d1 : decide (x.f.m ≤ p.m) = true := decide_eq_true m1
                have d2 : decide (p.m ≤ x.t.m) = false := decide_eq_false m2
                clear m2
                skip
                go_wp2_with fail
                go_big_region
                all_goals
                  go_wp2_with fail
                  go_roundg (n - (j + 1))
                  case measure => have := HQ.out; omega
                  case rel => exact ⟨j + 1, I, X, by go_num, by go_num, by go_num, rfl, by omega, by omega, by omega, Lib.hid (by rw [HCT.out, if_neg (show ¬ covP K p x = true from fun h => HCV.out (of_decide_eq_true h).2), List.append_nil, hIe.out]), Lib.hid (by rw [HXT.out, if_neg (show ¬ crsP p.m x = true from fun h => absurd (of_decide_eq_true h).2 (by have := HM2.out; omega)), List.append_nil, hXe.out]), Lib.hid (by (repeat' (first | (with_reducible exact G.refl _) | (with_reducible assumption) | (with_reducible refine G.drewN ?_ _) | (with_reducible refine G.drew ?_) | (with_reducible refine G.alloc ?_ _) | (with_reducible refine G.setCell ?_ (by first | (with_reducible exact Nat.le_refl _) | (simp; done) | (simp; omega) | omega) _) | (with_reducible refine G.trans ?_ (by assumption))))), Lib.hid ((gr7.out.trans (G.trans (by (repeat' (first | (with_reducible exact G.refl _) | (with_reducible refine G.drewN ?_ _) | (with_reducible refine G.drew ?_) | (with_reducible refine G.alloc ?_ _)))) hG9)).trans (by (repeat' (first | (with_reducible exact G.refl _) | (with_reducible refine G.drewN ?_ _) | (with_reducible refine G.drew ?_) | (with_reducible refine G.alloc ?_ _)))))⟩
            · have HM1 := Lib.hid m1
              have d1 : decide (x.f.m ≤ p.m) = false := decide_eq_false m1
              clear m1
              skip
              go_wp2_with fail
              go_big_region
              all_goals
                go_wp2_with fail
                go_roundg (n - (j + 1))
                case measure => have := HQ.out; omega
                case rel => exact ⟨j + 1, I, X, by go_num, by go_num, by go_num, rfl, by omega, by omega, by omega, Lib.hid (by rw [HCT.out, if_neg (show ¬ covP K p x = true from fun h => HCV.out (of_decide_eq_true h).2), List.append_nil, hIe.out]), Lib.hid (by rw [HXT.out, if_neg (show ¬ crsP p.m x = true from fun h => absurd (of_decide_eq_true h).1 (by have := HM1.out; omega)), List.append_nil, hXe.out]), Lib.hid (by (repeat' (first | (with_reducible exact G.refl _) | (with_reducible assumption) | (with_reducible refine G.drewN ?_ _) | (with_reducible refine G.drew ?_) | (with_reducible refine G.alloc ?_ _) | (with_reducible refine G.setCell ?_ (by first | (with_reducible exact Nat.le_refl _) | (simp; done) | (simp; omega) | omega) _) | (with_reducible refine G.trans ?_ (by assumption))))), Lib.hid ((gr7.out.trans (G.trans (by (repeat' (first | (with_reducible exact G.refl _) | (with_reducible refine G.drewN ?_ _) | (with_reducible refine G.drew ?_) | (with_reducible refine G.alloc ?_ _)))) hG9)).trans (by (repeat' (first | (with_reducible exact G.refl _) | (with_reducible refine G.drewN ?_ _) | (with_reducible refine G.drew ?_) | (with_reducible refine G.alloc ?_ _)))))⟩
      · have HKE := Lib.hid hk
        have e1 : (x.k == K) = false := beq_false_of_ne hk
        clear hk
        go_wp2_with fail
        go_big_region
        all_goals
          by_cases m1 : x.f.m ≤ p.m
          · by_cases m2 : p.m ≤ x.t.m
            · have HM1 := Lib.hid m1
              have HM2 := Lib.hid m2
              have d1 : decide (x.f.m ≤ p.m) = true := decide_eq_true m1
              have d2 : decide (p.m ≤ x.t.m) = true := decide_eq_true m2
              obtain ⟨hlX, b7, o7, hb7, hcX⟩ := HT7.out.hit (idx_hit (P := crsP p.m) HP.out (decide_eq_true ⟨m1, m2⟩)) hnX.out
              rw [hXe.out] at hlX hcX
              subst hb7
              have u7 := gr7.out.at hcX
              have k7 : (X : Int) < (nX : Int) := by omega
              have k8 : ¬ ((nX : Int) ≤ (X : Int)) := by omega
              clear hlX hcX
              skip
              go_wp2_with fail
              go_big_region
              all_goals
                go_wp2_with fail
                go_roundg (n - (j + 1))
                case measure => have := HQ.out; omega
                case rel => exact ⟨j + 1, I, X + 1, by go_num, by go_num, by go_num, rfl, by omega, by omega, by omega, Lib.hid (by rw [HCT.out, if_neg (show ¬ covP K p x = true from fun h => HKE.out (of_decide_eq_true h).1), List.append_nil, hIe.out]), Lib.hid (by rw [HXT.out, if_pos (show crsP p.m x = true from decide_eq_true ⟨HM1.out, HM2.out⟩), List.length_append, hXe.out]; rfl), Lib.hid (by (repeat' (first | (with_reducible exact G.refl _) | (with_reducible assumption) | (with_reducible refine G.drewN ?_ _) | (with_reducible refine G.drew ?_) | (with_reducible refine G.alloc ?_ _) | (with_reducible refine G.setCell ?_ (by first | (with_reducible exact Nat.le_refl _) | (simp; done) | (simp; omega) | omega) _) | (with_reducible refine G.trans ?_ (by assumption))))), Lib.hid (gr7.out.trans (by (repeat' (first | (with_reducible exact G.refl _) | (with_reducible refine G.drewN ?_ _) | (with_reducible refine G.drew ?_) | (with_reducible refine G.alloc ?_ _)))))⟩
            · have HM1 := Lib.hid m1
              have HM2 := Lib.hid m2
              have d1 : decide (x.f.m ≤ p.m) = true := decide_eq_true m1
              have d2 : decide (p.m ≤ x.t.m) = false := decide_eq_false m2
              clear m2
              skip
              go_wp2_with fail
              go_big_region
              all_goals
                go_wp2_with fail
                go_roundg (n - (j + 1))
                case measure => have := HQ.out; omega
                case rel => exact ⟨j + 1, I, X, by go_num, by go_num, by go_num, rfl, by omega, by omega, by omega, Lib.hid (by rw [HCT.out, if_neg (show ¬ covP K p x = true from fun h => HKE.out (of_decide_eq_true h).1), List.append_nil, hIe.out]), Lib.hid (by rw [HXT.out, if_neg (show ¬ crsP p.m x = true from fun h => absurd (of_decide_eq_true h).2 (by have := HM2.out; omega)), List.append_nil, hXe.out]), Lib.hid (by (repeat' (first | (with_reducible exact G.refl _) | (with_reducible assumption) | (with_reducible refine G.drewN ?_ _) | (with_reducible refine G.drew ?_) | (with_reducible refine G.alloc ?_ _) | (with_reducible refine G.setCell ?_ (by first | (with_reducible exact Nat.le_refl _) | (simp; done) | (simp; omega) | omega) _) | (with_reducible refine G.trans ?_ (by assumption))))), Lib.hid (gr7.out.trans (by (repeat' (first | (with_reducible exact G.refl _) | (with_reducible refine G.drewN ?_ _) | (with_reducible refine G.drew ?_) | (with_reducible refine G.alloc ?_ _)))))⟩
          · have HM1 := Lib.hid m1
            have d1 : decide (x.f.m ≤ p.m) = false := decide_eq_false m1
            clear m1
            skip
            go_wp2_with fail
            go_big_region
            all_goals
              go_wp2_with fail
              go_roundg (n - (j + 1))
              case measure => have := HQ.out; omega
              case rel => exact ⟨j + 1, I, X, by go_num, by go_num, by go_num, rfl, by omega, by omega, by omega, Lib.hid (by rw [HCT.out, if_neg (show ¬ covP K p x = true from fun h => HKE.out (of_decide_eq_true h).1), List.append_nil, hIe.out]), Lib.hid (by rw [HXT.out, if_neg (show ¬ crsP p.m x = true from fun h => absurd (of_decide_eq_true h).1 (by have := HM1.out; omega)), List.append_nil, hXe.out]), Lib.hid (by (repeat' (first | (with_reducible exact G.refl _) | (with_reducible assumption) | (with_reducible refine G.drewN ?_ _) | (with_reducible refine G.drew ?_) | (with_reducible refine G.alloc ?_ _) | (with_reducible refine G.setCell ?_ (by first | (with_reducible exact Nat.le_refl _) | (simp; done) | (simp; omega) | omega) _) | (with_reducible refine G.trans ?_ (by assumption))))), Lib.hid (gr7.out.trans (by (repeat' (first | (with_reducible exact G.refl _) | (with_reducible refine G.drewN ?_ _) | (with_reducible refine G.drew ?_) | (with_reducible refine G.alloc ?_ _)))))⟩
    · have hjj : n = j := by omega
      subst hjj
      have hI0 := hIe.out
      have hX0 := hXe.out
      rw [List.take_of_length_le (by rw [HN.out]; exact Nat.le_refl _)] at hI0 hX0
      rw [hnC.out] at hI0
      rw [hnX.out] at hX0
      subst hI0 hX0
      go_wp2_with fail
      go_region_held3 (fun w' => w'.cell? ⟨w.heap.size, 0, none⟩ = some (.int .i64 p.m) ∧ w'.cell? ⟨w.heap.size, 1, none⟩ = some (.int .i64 p.a) ∧ w'.cell? ⟨w.heap.size, 2, none⟩ = some (.int .i64 p.s) ∧ w'.cell? ⟨w.heap.size, 3, none⟩ = some (.int .i64 p.v))
        (first | (with_reducible assumption) | ((try dsimp only); (repeat' (with_reducible apply And.intro)) <;> go_simp))
        (first | (go_at_call 23; refine (list_any a l n c _ HN.out HK.out (H1.out.later (gw (gp.trans (by (repeat' (first | (with_reducible exact G.refl _) | (with_reducible refine G.drewN ?_ _) | (with_reducible refine G.drew ?_) | (with_reducible refine G.alloc ?_ _)))))))).mono ?_; rintro e w8 ⟨v8, rfl, hR8, hG8⟩; have gq := gp.trans (G.trans (by (repeat' (first | (with_reducible exact G.refl _) | (with_reducible refine G.drewN ?_ _) | (with_reducible refine G.drew ?_) | (with_reducible refine G.alloc ?_ _)))) hG8); clear gp; have gp := gq; clear gq; clear z0 z1 z2 z3; obtain ⟨z0, z1, z2, z3⟩ := B4.made rfl gp; obtain ⟨a8, c8, rfl, hc8, hT8⟩ := hR8.sps; have HT8 := Lib.hid hT8; rw [HN.out]; clear hR8 hT8 hc8) | (go_at_call 18; refine (place_any p _).mono ?_; rintro e w9 ⟨rfl, hG9⟩; have gq := gp.trans (G.trans (by (repeat' (first | (with_reducible exact G.refl _) | (with_reducible refine G.drewN ?_ _) | (with_reducible refine G.drew ?_) | (with_reducible refine G.alloc ?_ _)))) hG9); clear gp; have gp := gq; clear gq; clear z0 z1 z2 z3; obtain ⟨z0, z1, z2, z3⟩ := B4.made rfl gp) | (go_at_call 31; refine (sShift_any a8 l n c8 p _ HN.out HK.out (HT8.out.later (show G w8 _ by (repeat' (first | (with_reducible exact G.refl _) | (with_reducible assumption) | (with_reducible refine G.drewN ?_ _) | (with_reducible refine G.drew ?_) | (with_reducible refine G.alloc ?_ _) | (with_reducible refine G.setCell ?_ (by first | (with_reducible exact Nat.le_refl _) | (simp; done) | (simp; omega) | omega) _) | (with_reducible refine G.trans ?_ (by assumption))))))).mono ?_; rintro e w10 ⟨rfl, hG10⟩; have gq := gp.trans (G.trans (by (repeat' (first | (with_reducible exact G.refl _) | (with_reducible refine G.drewN ?_ _) | (with_reducible refine G.drew ?_) | (with_reducible refine G.alloc ?_ _)))) hG10); clear gp; have gp := gq; clear gq; clear z0 z1 z2 z3; obtain ⟨z0, z1, z2, z3⟩ := B4.made rfl gp; rw [← hS.out]) | (go_at_call 32; refine (rShift_any a l n c p _ HN.out HK.out (H1.out.later (gw (gp.trans (by (repeat' (first | (with_reducible exact G.refl _) | (with_reducible refine G.drewN ?_ _) | (with_reducible refine G.drew ?_) | (with_reducible refine G.alloc ?_ _)))))))).mono ?_; rintro e w11 ⟨rfl, hG11⟩; have gq := gp.trans (G.trans (by (repeat' (first | (with_reducible exact G.refl _) | (with_reducible refine G.drewN ?_ _) | (with_reducible refine G.drew ?_) | (with_reducible refine G.alloc ?_ _)))) hG11); clear gp; have gp := gq; clear gq; clear z0 z1 z2 z3; obtain ⟨z0, z1, z2, z3⟩ := B4.made rfl gp; rw [← hS.out]))
      all_goals
        go_wp2_with fail
        go_ret
        exact ⟨by first | done | rfl | simp, gw gp⟩
set_option maxRecDepth 100000 in
set_option maxHeartbeats 12800000 in
theorem covers_walk (a : Option Addr) (l : List Sp) (c : Nat) (K : Int) (p : Pl) (w : World) (_ : l.length ≤ c) (_ : c ≤ maxLen) (h1 : SpsAt w a l) (_ : a = none → c = 0) (_ : ∀ n ∈ l, WfS n) (_ : -9223372036854775808 ≤ K) (_ : K ≤ 9223372036854775807) (_ : WfP p) (hT : Tab w) :
    Calls Tryd.prog 9 #[.slice a l.length c, .int .i64 K, .agg #[.int .i64 p.m, .int .i64 p.a, .int .i64 p.s, .int .i64 p.v]] w fun e w' => e = .returned (.bool true) ∧ G w w' := by
  by_cases k12 : l.length ≤ 20
  · exact covers_loop a l _ c K p w rfl k12 h1 hT
  · obtain ⟨n, hn⟩ : ∃ z : Nat, Hid (l.length = z) := ⟨_, rfl⟩
    rw [hn.out] at k12 ⊢
    have m3 : (20 : Int) < (n : Int) := by omega
    have HT := Lib.hid hT
    clear k12 hT h1
    go_enter Tryd.func9, Tryd.ntmps9
    go_wp2_with fail
    refine (known_any _ (HT.out.later (by (repeat' (first | (with_reducible exact G.refl _) | (with_reducible assumption) | (with_reducible refine G.drewN ?_ _) | (with_reducible refine G.drew ?_) | (with_reducible refine G.alloc ?_ _) | (with_reducible refine G.setCell ?_ (by first | (with_reducible exact Nat.le_refl _) | (simp; done) | (simp; omega) | omega) _) | (with_reducible refine G.trans ?_ (by assumption))))))).mono ?_
    rintro e w1 ⟨rfl, hG1⟩
    have g1 : G w w1 := G.trans (by (repeat' (first | (with_reducible exact G.refl _) | (with_reducible refine G.drewN ?_ _) | (with_reducible refine G.drew ?_) | (with_reducible refine G.alloc ?_ _)))) hG1
    go_wp2_with fail
    refine (known_any _ (HT.out.later (g1.trans (by (repeat' (first | (with_reducible exact G.refl _) | (with_reducible assumption) | (with_reducible refine G.drewN ?_ _) | (with_reducible refine G.drew ?_) | (with_reducible refine G.alloc ?_ _) | (with_reducible refine G.setCell ?_ (by first | (with_reducible exact Nat.le_refl _) | (simp; done) | (simp; omega) | omega) _) | (with_reducible refine G.trans ?_ (by assumption)))))))).mono ?_
    rintro e w2 ⟨rfl, hG2⟩
    go_wp2_with fail
    go_ret
    exact ⟨by first | done | rfl | simp, g1.trans (G.trans (by (repeat' (first | (with_reducible exact G.refl _) | (with_reducible refine G.drewN ?_ _) | (with_reducible refine G.drew ?_) | (with_reducible refine G.alloc ?_ _)))) hG2)⟩

/-! ### the row and the card -/
open Go.ChangeShapes Go.WideShapes Go.ChangeAt Go.RowKit
set_option maxRecDepth 100000 in
theorem spannerCovers_lifted (os : Os) (started : os.Started) (H : Type) (enc : TypeId × Value → H) :
    ReturnsInHanded {} Tryd.checked os 9 .any (fun w args => (Rows.spannerCoversSpec.pre enc Tryd.prog Tryd.f9 [] false w args ∧ laidMetH Tryd.prog laidL w) ∧ sizedMet enc Tryd.prog Tryd.f9 (OpenSpec.ofChange Rows.spannerCoversSpec) false w args)
      (Rows.spannerCoversSpec.post enc Tryd.prog Tryd.f9 false true false false) := by
  refine returnsInHanded_of_change_and (C := Tryd.checked) (X := fun w _ => laidMetH Tryd.prog laidL w) (fun _ _ _ hh h => h.of_heap hh) own started (by kernel_rfl) Tryd.func9
    (ChangeSpec.witness_shaped (enc := enc) (C := Tryd.checked) (os := os) (X := fun w _ => laidMetH Tryd.prog laidL w) false (World.laidAll Tryd.prog os laidL) #[.slice none 0 0, .int .i64 0, .agg #[.int .i64 0, .int .i64 0, .int .i64 0, .int .i64 0]] 8 (World.laidAll_os _ _ _) (shapedL os) (by kernel_rfl) (by kernel_rfl) (by kernel_rfl) (laid_met os _)) ?_
  intro W base args ds gs before hval0 hW _ _ hL _
  have hval : ∀ (j : Nat) t v, Tryd.f9.params[j]? = some t → args[j]? = some v → Value.okWide Tryd.prog W .any base t v := hval0
  have hW' := hW
  obtain ⟨p, q, hA0, hV, rfl, hfz, hnd⟩ := hW
  have hA : DataW.TrodAll enc Tryd.prog W 0 (fun _ => true) true Tryd.f9.params.toList args.toList ds p := hA0
  rw [Tryd.params9] at hA hval
  obtain ⟨v0, vs0, d0, ds0, p0, q0, hargs, rfl, rfl, h0, r0⟩ := trodAll_cons hA
  obtain ⟨v1, vs1, d1, ds1, p1, q1, rfl, rfl, rfl, h1, r1⟩ := trodAll_cons r0
  obtain ⟨v2, vs2, d2, ds2, p2, q2, rfl, rfl, rfl, h2, r2⟩ := trodAll_cons r1
  obtain ⟨rfl, rfl, rfl⟩ := trodAll_nil r2
  obtain rfl : args = #[v0, v1, v2] := by cases args; simp_all
  obtain ⟨rfl, rfl⟩ := trodVars_none hV
  have keep0 := h0
  obtain ⟨a0, cap0, l0, rfl, lc0, mc0, la0, wf0, lz0⟩ := open_spsArg (hval 0 40 v0 rfl rfl) h0
  obtain ⟨a1, rfl, rfl, rfl, w1⟩ := open_int Tryd.underlying3 (hval 1 3 v1 rfl rfl) h1
  obtain ⟨bl1, bh1⟩ := bounds_i64 w1
  have keep2 := h2
  obtain ⟨x2, rfl, wf2⟩ := open_pArg (hval 2 23 v2 rfl rfl) h2
  clear hA0 hval0
  simp only [List.append_nil] at hW'
  have hlt0 : ∀ x ∈ p0, x.block < W.heap.size := fun x hx => by have := hW'.lt x (by simp [hx]); simpa using this
  have hlt2 : ∀ x ∈ p2, x.block < W.heap.size := fun x hx => by have := hW'.lt x (by simp [hx]); simpa using this
  refine (covers_walk a0 l0 cap0 a1 x2 W lc0 mc0 la0 lz0 wf0 bl1 bh1 wf2  (tab_of_laid hL)).mono fun e W' ⟨he, hg⟩ => ?_
  subst he
  exact ⟨_, rfl, _, _, _, [], (p0 ++ ([] ++ (p2 ++ []))), [], hW', (trodAll_cons_mk (shut_bool Tryd.underlying4 _) trodAll_mk0), (trodAll_cons_mk (Below.trod (by kernel_rfl) (by kernel_rfl) (of_decide_eq_true (by kernel_rfl)) keep0 hg hlt0) (trodAll_cons_mk (shut_int Tryd.underlying3 w1) (trodAll_cons_mk (Below.trod (by kernel_rfl) (by kernel_rfl) (of_decide_eq_true (by kernel_rfl)) keep2 hg hlt2) trodAll_mk0))), rfl, Below.frame hg _, fun h => by cases h⟩

theorem spannerCovers_holds : Rows.SpannerCoversSaid :=
  OpenClaim.holds_of_wide 9 Tryd.f9 rfl rfl rfl rfl rfl rfl rfl ⟨rfl, rfl, rfl, rfl, rfl⟩ rfl rfl rfl rfl rfl (by kernel_rfl) Tryd.func9 (by kernel_rfl)
    (of_decide_eq_true (by kernel_rfl)) (by unfold Func.isWrapper; first | (rw [if_pos (by decide +kernel)]; kernel_rfl) | (rw [if_neg (by decide +kernel)]; exact ⟨rfl, rfl⟩))
    (fun os started H enc _ => spannerCovers_lifted os started H enc)

theorem spannerCovers_card : Rows.SpannerCoversCardSaid :=
  Claim7.holds_tied_plain_at .later [] [.data] true (true, "104533d283153e89540ccca5515efbc3b9ab0fd0357c0cc46ac89a8b2fd1ff52") false
    spannerCovers_holds (fun _ h => by cases h) (by kernel_rfl) (fun _ h => by cases h) spannerCovers_row_tie rfl ⟨rfl, rfl⟩ (by kernel_rfl) rfl
    (fun f fn hf hfn => by
      obtain rfl : f = 9 := Option.some.inj ((show Tryd.prog.funcNamed "hemiola/hemiolalaw14.SpannerCovers" = some 9 by kernel_rfl).symm.trans hf) |>.symm
      obtain rfl : fn = Tryd.f9 := (Option.some.inj (Tryd.func9.symm.trans hfn)).symm
      exact ⟨by kernel_rfl, fun j t ht => by
        rw [Tryd.params9] at ht
        have hm : t ∈ [40, 3, 23] := by simpa using Array.mem_of_getElem? ht
        have hall : ([40, 3, 23].all fun u => !Tryd.prog.wantsStandIn u) = true := by kernel_rfl
        exact (show Tryd.prog.wantsStandIn t = false by simpa using List.all_eq_true.1 hall t hm)⟩)
    (by kernel_rfl)
#print axioms spannerCovers_card
end Go.Proofs.YtgepjpbdfjcaaaaDoor
