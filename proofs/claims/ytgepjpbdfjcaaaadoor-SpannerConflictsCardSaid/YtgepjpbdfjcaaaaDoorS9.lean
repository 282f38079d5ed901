import Derived.Test.YtgepjpbdfjcaaaaDoorS8
/-! Spanners: the reference's conflicts. -/
namespace Go.Proofs.YtgepjpbdfjcaaaaDoor
open Go.RowKit
attribute [local go_sem] World.cell?_alloc_some

set_option maxRecDepth 100000 in
set_option maxHeartbeats 12800000 in
theorem rConflict_any (x y : Sp) (w : World) : Calls Tryd.prog 20 #[.agg #[.int .i64 x.k, .int .i64 x.f.m, .int .i64 x.f.a, .int .i64 x.f.s, .int .i64 x.f.v, .int .i64 x.t.m, .int .i64 x.t.a, .int .i64 x.t.s, .int .i64 x.t.v], .agg #[.int .i64 y.k, .int .i64 y.f.m, .int .i64 y.f.a, .int .i64 y.f.s, .int .i64 y.f.v, .int .i64 y.t.m, .int .i64 y.t.a, .int .i64 y.t.s, .int .i64 y.t.v]] w fun e w' => e = .returned (.bool (decide (Cnf x y))) ∧ G w w' := by
  obtain ⟨R, hR⟩ : ∃ z : Bool, Hid (z = decide (Cnf x y)) := ⟨_, rfl⟩
  rw [← hR.out]
  have gb : G ((w.alloc (.cells #[.int .i64 x.k, .int .i64 x.f.m, .int .i64 x.f.a, .int .i64 x.f.s, .int .i64 x.f.v, .int .i64 x.t.m, .int .i64 x.t.a, .int .i64 x.t.s, .int .i64 x.t.v] 25)).alloc (.cells #[.int .i64 y.k, .int .i64 y.f.m, .int .i64 y.f.a, .int .i64 y.f.s, .int .i64 y.f.v, .int .i64 y.t.m, .int .i64 y.t.a, .int .i64 y.t.s, .int .i64 y.t.v] 25)) ((w.alloc (.cells #[.int .i64 x.k, .int .i64 x.f.m, .int .i64 x.f.a, .int .i64 x.f.s, .int .i64 x.f.v, .int .i64 x.t.m, .int .i64 x.t.a, .int .i64 x.t.s, .int .i64 x.t.v] 25)).alloc (.cells #[.int .i64 y.k, .int .i64 y.f.m, .int .i64 y.f.a, .int .i64 y.f.s, .int .i64 y.f.v, .int .i64 y.t.m, .int .i64 y.t.a, .int .i64 y.t.s, .int .i64 y.t.v] 25)) := G.refl _
  have bb := B9.made2 rfl rfl gb
  obtain ⟨⟨x0, x1, x2, x3, x4, x5, x6, x7, x8⟩, ⟨y0, y1, y2, y3, y4, y5, y6, y7, y8⟩⟩ := bb
  by_cases hg : Kd x.k ∧ Grp x y
  rotate_left
  · have HR := Lib.hid (show R = false by rw [hR.out]; exact decide_eq_false (fun k => hg ⟨k.1, k.2.1⟩))
    have HG := Lib.hid hg
    clear hg
    go_enter Tryd.func20, Tryd.ntmps20
    go_wp2_with fail
    refine (rGrouped_any x y _).mono ?_
    rintro e w1 ⟨rfl, hG1⟩
    rw [decide_eq_false HG.out]
    go_wp2_with fail
    go_ret
    exact ⟨by rw [HR.out]; first | done | rfl, by (repeat' (first | (with_reducible exact G.refl _) | (with_reducible assumption) | (with_reducible refine G.drewN ?_ _) | (with_reducible refine G.drew ?_) | (with_reducible refine G.alloc ?_ _) | (with_reducible refine G.setCell ?_ (by first | (with_reducible exact Nat.le_refl _) | (simp; done) | (simp; omega) | omega) _) | (with_reducible refine G.trans ?_ (by assumption))))⟩
  have HG := Lib.hid hg
  have HC := Lib.hid (show R = decide (Rul x y) by rw [hR.out]; exact decide_eq_decide.2 ⟨fun k => k.2.2, fun k => ⟨hg.1, hg.2, k⟩⟩)
  have HKD := Lib.hid hg.1
  obtain ⟨p, hp⟩ : ∃ z : Int, Hid (z = cmP x.t y.f) := ⟨_, rfl⟩
  obtain ⟨q, hq⟩ : ∃ z : Int, Hid (z = cmP y.t x.f) := ⟨_, rfl⟩
  obtain ⟨u, hu⟩ : ∃ z : Bool, Hid (z = decide (Wi x y)) := ⟨_, rfl⟩
  obtain ⟨v, hv⟩ : ∃ z : Bool, Hid (z = decide (Wi y x)) := ⟨_, rfl⟩
  have HO := Lib.hid (show Ovl x y ↔ 0 < p ∧ 0 < q by rw [hp.out, hq.out]; exact Iff.rfl)
  have HT := Lib.hid (show Tou x y ↔ 0 ≤ p ∧ 0 ≤ q by rw [hp.out, hq.out]; exact Iff.rfl)
  have HX := Lib.hid (show R = decide (if x.k = 1 then (0 < p ∧ 0 < q) ∧ u = v else if x.k = 4 ∨ x.k = 5 ∨ x.k = 7 then 0 ≤ p ∧ 0 ≤ q else 0 < p ∧ 0 < q) by
    rw [HC.out]
    refine decide_eq_decide.2 ?_
    unfold Rul Crs
    rw [HO.out, HT.out, hu.out, hv.out, decide_eq_decide])
  have hV : grK x.k = 1 ∧ x.k = 1 ∨ (grK x.k = 2 ∨ grK x.k = 4) ∧ ¬ x.k = 1 ∧ ¬ (x.k = 4 ∨ x.k = 5 ∨ x.k = 7) ∨ (grK x.k = 3 ∨ grK x.k = 5) ∧ ¬ x.k = 1 ∧ (x.k = 4 ∨ x.k = 5 ∨ x.k = 7) := by
    have h := HKD.out; unfold Kd at h; have h1 := gk_tab x.k; omega
  clear hg
  rcases (by omega : p < 0 ∨ p = 0 ∨ (0 < p ∧ q < 0) ∨ (0 < p ∧ q = 0) ∨ (0 < p ∧ 0 < q)) with hc | hc | ⟨hc1, hc⟩ | ⟨hc1, hc⟩ | ⟨hc1, hc2⟩
  · rcases hV with ⟨hv1, hk1⟩ | ⟨hv1, hk1, hk2⟩ | ⟨hv1, hk1, hk2⟩
    · have HR := Lib.hid (show R = false by rw [HX.out]; simp only [if_pos hk1]; exact decide_eq_false (fun k => by have h3 := k.1; omega))
      have HV := Lib.hid hv1
      clear hv1 hk1
      go_enter Tryd.func20, Tryd.ntmps20
      go_wp2_with fail
      refine (rGrouped_any x y _).mono ?_
      rintro e w1 ⟨rfl, hG1⟩
      have gq := gb.trans (G.trans (by (repeat' (first | (with_reducible exact G.refl _) | (with_reducible refine G.drewN ?_ _) | (with_reducible refine G.drew ?_) | (with_reducible refine G.alloc ?_ _)))) hG1); clear gb; have gb := gq; clear x0 x1 x2 x3 x4 x5 x6 x7 x8 y0 y1 y2 y3 y4 y5 y6 y7 y8; obtain ⟨⟨x0, x1, x2, x3, x4, x5, x6, x7, x8⟩, ⟨y0, y1, y2, y3, y4, y5, y6, y7, y8⟩⟩ := B9.made2 rfl rfl gb
      rw [decide_eq_true HG.out]
      go_wp2_with fail
      refine (rCompare_any x.t y.f _).mono ?_
      rintro e w2 ⟨rfl, hG2⟩
      have gq := gb.trans (G.trans (by (repeat' (first | (with_reducible exact G.refl _) | (with_reducible refine G.drewN ?_ _) | (with_reducible refine G.drew ?_) | (with_reducible refine G.alloc ?_ _)))) hG2); clear gb; have gb := gq; clear x0 x1 x2 x3 x4 x5 x6 x7 x8 y0 y1 y2 y3 y4 y5 y6 y7 y8; obtain ⟨⟨x0, x1, x2, x3, x4, x5, x6, x7, x8⟩, ⟨y0, y1, y2, y3, y4, y5, y6, y7, y8⟩⟩ := B9.made2 rfl rfl gb
      rw [← hp.out]
      go_wp2_with fail
      refine (rCompare_any x.t y.f _).mono ?_
      rintro e w3 ⟨rfl, hG3⟩
      have gq := gb.trans (G.trans (by (repeat' (first | (with_reducible exact G.refl _) | (with_reducible refine G.drewN ?_ _) | (with_reducible refine G.drew ?_) | (with_reducible refine G.alloc ?_ _)))) hG3); clear gb; have gb := gq; clear x0 x1 x2 x3 x4 x5 x6 x7 x8 y0 y1 y2 y3 y4 y5 y6 y7 y8; obtain ⟨⟨x0, x1, x2, x3, x4, x5, x6, x7, x8⟩, ⟨y0, y1, y2, y3, y4, y5, y6, y7, y8⟩⟩ := B9.made2 rfl rfl gb
      rw [← hp.out]
      go_wp2_with fail
      refine (rgroup_any _ _).mono ?_
      rintro e w4 ⟨rfl, hG4⟩
      have gq := gb.trans (G.trans (by (repeat' (first | (with_reducible exact G.refl _) | (with_reducible refine G.drewN ?_ _) | (with_reducible refine G.drew ?_) | (with_reducible refine G.alloc ?_ _)))) hG4); clear gb; have gb := gq; clear x0 x1 x2 x3 x4 x5 x6 x7 x8 y0 y1 y2 y3 y4 y5 y6 y7 y8; obtain ⟨⟨x0, x1, x2, x3, x4, x5, x6, x7, x8⟩, ⟨y0, y1, y2, y3, y4, y5, y6, y7, y8⟩⟩ := B9.made2 rfl rfl gb
      rw [HV.out]
      go_wp2_with fail
      refine wp_region_held_drew (S := fun w' => w'.cell? ⟨w.heap.size, 0, none⟩ = some (.int .i64 x.k) ∧ w'.cell? ⟨w.heap.size, 1, none⟩ = some (.int .i64 x.f.m) ∧ w'.cell? ⟨w.heap.size, 2, none⟩ = some (.int .i64 x.f.a) ∧ w'.cell? ⟨w.heap.size, 3, none⟩ = some (.int .i64 x.f.s) ∧ w'.cell? ⟨w.heap.size, 4, none⟩ = some (.int .i64 x.f.v) ∧ w'.cell? ⟨w.heap.size, 5, none⟩ = some (.int .i64 x.t.m) ∧ w'.cell? ⟨w.heap.size, 6, none⟩ = some (.int .i64 x.t.a) ∧ w'.cell? ⟨w.heap.size, 7, none⟩ = some (.int .i64 x.t.s) ∧ w'.cell? ⟨w.heap.size, 8, none⟩ = some (.int .i64 x.t.v) ∧ w'.cell? ⟨w.heap.size + 1, 0, none⟩ = some (.int .i64 y.k) ∧ w'.cell? ⟨w.heap.size + 1, 1, none⟩ = some (.int .i64 y.f.m) ∧ w'.cell? ⟨w.heap.size + 1, 2, none⟩ = some (.int .i64 y.f.a) ∧ w'.cell? ⟨w.heap.size + 1, 3, none⟩ = some (.int .i64 y.f.s) ∧ w'.cell? ⟨w.heap.size + 1, 4, none⟩ = some (.int .i64 y.f.v) ∧ w'.cell? ⟨w.heap.size + 1, 5, none⟩ = some (.int .i64 y.t.m) ∧ w'.cell? ⟨w.heap.size + 1, 6, none⟩ = some (.int .i64 y.t.a) ∧ w'.cell? ⟨w.heap.size + 1, 7, none⟩ = some (.int .i64 y.t.s) ∧ w'.cell? ⟨w.heap.size + 1, 8, none⟩ = some (.int .i64 y.t.v)) (by kernel_rfl) (by ((try dsimp only); first | (with_reducible assumption) | ((repeat' (with_reducible apply And.intro)) <;> go_simp))) (fun hH0 => ?_)
      refine wpAnyH_take (i := 0) (oi := { dst := some 44, op := Go.Op.move (Go.Operand.tmp 5), type := 4, pos := "ref.go:81", after := #[], guard := none }) (v := ?_) rfl (by kernel_rfl) (by kernel_rfl) (by kernel_rfl) (fun _ _ _ h => h) (Or.inl ⟨by rfl, ?_⟩) (by assumption) ?_
      rotate_left
      · (intro w hSw; (try dsimp only at hSw); go_simp) <;> (with_reducible rfl)
      simp only [Act.put, List.setIfInBounds_toArray, List.set_cons_zero, List.set_cons_succ]
      refine wpAnyH_take (i := 1) (oi := { dst := some 45, op := Go.Op.unOp Go.UnOp.not 4 (Go.Operand.tmp 44), type := 4, pos := "ref.go:81", after := #[{ on := 0, ground := Go.Ground.data }], guard := none }) (v := ?_) rfl (by kernel_rfl) (by kernel_rfl) (by kernel_rfl) (fun _ _ _ h => h) (Or.inl ⟨by rfl, ?_⟩) (by assumption) ?_
      rotate_left
      · (intro w hSw; (try dsimp only at hSw); go_simp) <;> (with_reducible rfl)
      simp only [Act.put, List.setIfInBounds_toArray, List.set_cons_zero, List.set_cons_succ]
      refine wpAnyH_take (i := 2) (oi := { dst := some 46, op := Go.Op.move (Go.Operand.tmp 45), type := 4, pos := "ref.go:81", after := #[{ on := 1, ground := Go.Ground.data }], guard := none }) (v := ?_) rfl (by kernel_rfl) (by kernel_rfl) (by kernel_rfl) (fun _ _ _ h => h) (Or.inl ⟨by rfl, ?_⟩) (by assumption) ?_
      rotate_left
      · (intro w hSw; (try dsimp only at hSw); go_simp) <;> (with_reducible rfl)
      simp only [Act.put, List.setIfInBounds_toArray, List.set_cons_zero, List.set_cons_succ]
      refine wpAnyH_take (i := 3) (oi := { dst := some 47, op := Go.Op.load 25 (Go.Operand.tmp 2), type := 25, pos := "ref.go:81", after := #[{ on := 2, ground := Go.Ground.guard }], guard := some (2, true) }) (v := undef) rfl (by kernel_rfl) (by kernel_rfl) (by kernel_rfl) (fun _ _ _ h => h) (Or.inr ⟨by rfl, rfl⟩) (by assumption) ?_
      simp only [Act.put, List.setIfInBounds_toArray, List.set_cons_zero, List.set_cons_succ]
      refine wpAnyH_take (i := 4) (oi := { dst := some 48, op := Go.Op.load 25 (Go.Operand.tmp 3), type := 25, pos := "ref.go:81", after := #[{ on := 2, ground := Go.Ground.guard }], guard := some (2, true) }) (v := undef) rfl (by kernel_rfl) (by kernel_rfl) (by kernel_rfl) (fun _ _ _ h => h) (Or.inr ⟨by rfl, rfl⟩) (by assumption) ?_
      simp only [Act.put, List.setIfInBounds_toArray, List.set_cons_zero, List.set_cons_succ]
      refine wpAnyH_take (i := 6) (oi := { dst := some 50, op := Go.Op.load 25 (Go.Operand.tmp 3), type := 25, pos := "ref.go:81", after := #[{ on := 2, ground := Go.Ground.guard }], guard := some (2, true) }) (v := undef) rfl (by kernel_rfl) (by kernel_rfl) (by kernel_rfl) (fun _ _ _ h => h) (Or.inr ⟨by rfl, rfl⟩) (by assumption) ?_
      simp only [Act.put, List.setIfInBounds_toArray, List.set_cons_zero, List.set_cons_succ]
      refine wpAnyH_take (i := 7) (oi := { dst := some 51, op := Go.Op.load 25 (Go.Operand.tmp 2), type := 25, pos := "ref.go:81", after := #[{ on := 2, ground := Go.Ground.guard }], guard := some (2, true) }) (v := undef) rfl (by kernel_rfl) (by kernel_rfl) (by kernel_rfl) (fun _ _ _ h => h) (Or.inr ⟨by rfl, rfl⟩) (by assumption) ?_
      simp only [Act.put, List.setIfInBounds_toArray, List.set_cons_zero, List.set_cons_succ]
      refine wpAnyH_ready (rs := [5]) (by kernel_rfl) (by simp) ?_
      refine (AllReadyH.cons (o := { dst := some 49, op := Go.Op.call { callee := Go.Callee.value (Go.Operand.func 26), args := #[Go.Operand.tmp 47, Go.Operand.tmp 48], argTypes := #[25, 25] }, type := 4, pos := "ref.go:81", after := #[{ on := 3, ground := Go.Ground.data }, { on := 4, ground := Go.Ground.data }, { on := 2, ground := Go.Ground.chain }, { on := 2, ground := Go.Ground.guard }], guard := some (2, true) }) rfl (fun Kc hKc => ?_) AllReadyH.nil)
      go_simp
      refine hKc.out _ _ (by ((try dsimp only); first | (with_reducible assumption) | ((repeat' (with_reducible apply And.intro)) <;> go_simp))) (fun hH3 => ?_)
      clear hKc Kc hH0
      refine wpAnyH_ready (rs := [8]) (by kernel_rfl) (by simp) ?_
      refine (AllReadyH.cons (o := { dst := some 52, op := Go.Op.call { callee := Go.Callee.value (Go.Operand.func 26), args := #[Go.Operand.tmp 50, Go.Operand.tmp 51], argTypes := #[25, 25] }, type := 4, pos := "ref.go:81", after := #[{ on := 6, ground := Go.Ground.data }, { on := 7, ground := Go.Ground.data }, { on := 5, ground := Go.Ground.chain }, { on := 2, ground := Go.Ground.guard }], guard := some (2, true) }) rfl (fun Kc hKc => ?_) AllReadyH.nil)
      go_simp
      refine hKc.out _ _ (by ((try dsimp only); first | (with_reducible assumption) | ((repeat' (with_reducible apply And.intro)) <;> go_simp))) (fun hH4 => ?_)
      clear hKc Kc hH3
      refine wpAnyH_take (i := 9) (oi := { dst := some 53, op := Go.Op.binOp Go.BinOp.eql 4 (Go.Operand.tmp 49) (Go.Operand.tmp 52) 4, type := 4, pos := "ref.go:81", after := #[{ on := 5, ground := Go.Ground.data }, { on := 8, ground := Go.Ground.data }, { on := 2, ground := Go.Ground.guard }], guard := some (2, true) }) (v := undef) rfl (by kernel_rfl) (by kernel_rfl) (by kernel_rfl) (fun _ _ _ h => h) (Or.inr ⟨by rfl, rfl⟩) (by assumption) ?_
      simp only [Act.put, List.setIfInBounds_toArray, List.set_cons_zero, List.set_cons_succ]
      refine wpAnyH_take (i := 10) (oi := { dst := some 54, op := Go.Op.pick (Go.Operand.tmp 46) (Go.Operand.tmp 53) (Go.Operand.const (Go.Value.bool false)), type := 4, pos := "ref.go:81", after := #[{ on := 2, ground := Go.Ground.data }, { on := 9, ground := Go.Ground.data }], guard := none }) (v := ?_) rfl (by kernel_rfl) (by kernel_rfl) (by kernel_rfl) (fun _ _ _ h => h) (Or.inl ⟨by rfl, ?_⟩) (by assumption) ?_
      rotate_left
      · (intro w hSw; (try dsimp only at hSw); go_simp) <;> (with_reducible rfl)
      simp only [Act.put, List.setIfInBounds_toArray, List.set_cons_zero, List.set_cons_succ]
      refine wpAnyH_take (i := 11) (oi := { dst := some 4, op := Go.Op.assign (Go.Operand.tmp 54), type := 4, pos := "ref.go:81", after := #[{ on := 10, ground := Go.Ground.data }, { on := 8, ground := Go.Ground.chain }, { on := 0, ground := Go.Ground.phase }, { on := 1, ground := Go.Ground.phase }, { on := 2, ground := Go.Ground.phase }, { on := 3, ground := Go.Ground.phase }, { on := 4, ground := Go.Ground.phase }, { on := 5, ground := Go.Ground.phase }, { on := 6, ground := Go.Ground.phase }, { on := 7, ground := Go.Ground.phase }, { on := 8, ground := Go.Ground.phase }, { on := 9, ground := Go.Ground.phase }, { on := 10, ground := Go.Ground.phase }], guard := none }) (v := ?_) rfl (by kernel_rfl) (by kernel_rfl) (by kernel_rfl) (fun _ _ _ h => h) (Or.inl ⟨by rfl, ?_⟩) (by assumption) ?_
      rotate_left
      · (intro w hSw; (try dsimp only at hSw); go_simp) <;> (with_reducible rfl)
      simp only [Act.put, List.setIfInBounds_toArray, List.set_cons_zero, List.set_cons_succ]
      refine wpAnyH_done (by kernel_rfl) ?_ _
      go_wp2_with fail
      go_ret
      exact ⟨by rw [HR.out]; first | done | rfl, by (repeat' (first | (with_reducible exact G.refl _) | (with_reducible assumption) | (with_reducible refine G.drewN ?_ _) | (with_reducible refine G.drew ?_) | (with_reducible refine G.alloc ?_ _) | (with_reducible refine G.setCell ?_ (by first | (with_reducible exact Nat.le_refl _) | (simp; done) | (simp; omega) | omega) _) | (with_reducible refine G.trans ?_ (by assumption))))⟩
    · have HR := Lib.hid (show R = false by rw [HX.out]; simp only [if_neg hk1, if_neg hk2]; exact decide_eq_false (by omega))
      rcases hv1 with hv1 | hv1 <;>
      · have HV := Lib.hid hv1
        clear hv1 hk1 hk2
        go_enter Tryd.func20, Tryd.ntmps20
        go_wp2_with fail
        refine (rGrouped_any x y _).mono ?_
        rintro e w1 ⟨rfl, hG1⟩
        have gq := gb.trans (G.trans (by (repeat' (first | (with_reducible exact G.refl _) | (with_reducible refine G.drewN ?_ _) | (with_reducible refine G.drew ?_) | (with_reducible refine G.alloc ?_ _)))) hG1); clear gb; have gb := gq; clear x0 x1 x2 x3 x4 x5 x6 x7 x8 y0 y1 y2 y3 y4 y5 y6 y7 y8; obtain ⟨⟨x0, x1, x2, x3, x4, x5, x6, x7, x8⟩, ⟨y0, y1, y2, y3, y4, y5, y6, y7, y8⟩⟩ := B9.made2 rfl rfl gb
        rw [decide_eq_true HG.out]
        go_wp2_with fail
        refine (rCompare_any x.t y.f _).mono ?_
        rintro e w2 ⟨rfl, hG2⟩
        have gq := gb.trans (G.trans (by (repeat' (first | (with_reducible exact G.refl _) | (with_reducible refine G.drewN ?_ _) | (with_reducible refine G.drew ?_) | (with_reducible refine G.alloc ?_ _)))) hG2); clear gb; have gb := gq; clear x0 x1 x2 x3 x4 x5 x6 x7 x8 y0 y1 y2 y3 y4 y5 y6 y7 y8; obtain ⟨⟨x0, x1, x2, x3, x4, x5, x6, x7, x8⟩, ⟨y0, y1, y2, y3, y4, y5, y6, y7, y8⟩⟩ := B9.made2 rfl rfl gb
        rw [← hp.out]
        go_wp2_with fail
        refine (rCompare_any x.t y.f _).mono ?_
        rintro e w3 ⟨rfl, hG3⟩
        have gq := gb.trans (G.trans (by (repeat' (first | (with_reducible exact G.refl _) | (with_reducible refine G.drewN ?_ _) | (with_reducible refine G.drew ?_) | (with_reducible refine G.alloc ?_ _)))) hG3); clear gb; have gb := gq; clear x0 x1 x2 x3 x4 x5 x6 x7 x8 y0 y1 y2 y3 y4 y5 y6 y7 y8; obtain ⟨⟨x0, x1, x2, x3, x4, x5, x6, x7, x8⟩, ⟨y0, y1, y2, y3, y4, y5, y6, y7, y8⟩⟩ := B9.made2 rfl rfl gb
        rw [← hp.out]
        go_wp2_with fail
        refine (rgroup_any _ _).mono ?_
        rintro e w4 ⟨rfl, hG4⟩
        have gq := gb.trans (G.trans (by (repeat' (first | (with_reducible exact G.refl _) | (with_reducible refine G.drewN ?_ _) | (with_reducible refine G.drew ?_) | (with_reducible refine G.alloc ?_ _)))) hG4); clear gb; have gb := gq; clear x0 x1 x2 x3 x4 x5 x6 x7 x8 y0 y1 y2 y3 y4 y5 y6 y7 y8; obtain ⟨⟨x0, x1, x2, x3, x4, x5, x6, x7, x8⟩, ⟨y0, y1, y2, y3, y4, y5, y6, y7, y8⟩⟩ := B9.made2 rfl rfl gb
        rw [HV.out]
        go_wp2_with fail
        all_goals
          go_ret
          exact ⟨ret_bool (by rw [HR.out]; first | done | rfl | (simp; done) | (simp; omega) | grind), by (repeat' (first | (with_reducible exact G.refl _) | (with_reducible assumption) | (with_reducible refine G.drewN ?_ _) | (with_reducible refine G.drew ?_) | (with_reducible refine G.alloc ?_ _) | (with_reducible refine G.setCell ?_ (by first | (with_reducible exact Nat.le_refl _) | (simp; done) | (simp; omega) | omega) _) | (with_reducible refine G.trans ?_ (by assumption))))⟩
    · have HR := Lib.hid (show R = false by rw [HX.out]; simp only [if_neg hk1, if_pos hk2]; exact decide_eq_false (by omega))
      rcases hv1 with hv1 | hv1 <;>
      · have HV := Lib.hid hv1
        clear hv1 hk1 hk2
        go_enter Tryd.func20, Tryd.ntmps20
        go_wp2_with fail
        refine (rGrouped_any x y _).mono ?_
        rintro e w1 ⟨rfl, hG1⟩
        have gq := gb.trans (G.trans (by (repeat' (first | (with_reducible exact G.refl _) | (with_reducible refine G.drewN ?_ _) | (with_reducible refine G.drew ?_) | (with_reducible refine G.alloc ?_ _)))) hG1); clear gb; have gb := gq; clear x0 x1 x2 x3 x4 x5 x6 x7 x8 y0 y1 y2 y3 y4 y5 y6 y7 y8; obtain ⟨⟨x0, x1, x2, x3, x4, x5, x6, x7, x8⟩, ⟨y0, y1, y2, y3, y4, y5, y6, y7, y8⟩⟩ := B9.made2 rfl rfl gb
        rw [decide_eq_true HG.out]
        go_wp2_with fail
        refine (rCompare_any x.t y.f _).mono ?_
        rintro e w2 ⟨rfl, hG2⟩
        have gq := gb.trans (G.trans (by (repeat' (first | (with_reducible exact G.refl _) | (with_reducible refine G.drewN ?_ _) | (with_reducible refine G.drew ?_) | (with_reducible refine G.alloc ?_ _)))) hG2); clear gb; have gb := gq; clear x0 x1 x2 x3 x4 x5 x6 x7 x8 y0 y1 y2 y3 y4 y5 y6 y7 y8; obtain ⟨⟨x0, x1, x2, x3, x4, x5, x6, x7, x8⟩, ⟨y0, y1, y2, y3, y4, y5, y6, y7, y8⟩⟩ := B9.made2 rfl rfl gb
        rw [← hp.out]
        go_wp2_with fail
        refine (rCompare_any x.t y.f _).mono ?_
        rintro e w3 ⟨rfl, hG3⟩
        have gq := gb.trans (G.trans (by (repeat' (first | (with_reducible exact G.refl _) | (with_reducible refine G.drewN ?_ _) | (with_reducible refine G.drew ?_) | (with_reducible refine G.alloc ?_ _)))) hG3); clear gb; have gb := gq; clear x0 x1 x2 x3 x4 x5 x6 x7 x8 y0 y1 y2 y3 y4 y5 y6 y7 y8; obtain ⟨⟨x0, x1, x2, x3, x4, x5, x6, x7, x8⟩, ⟨y0, y1, y2, y3, y4, y5, y6, y7, y8⟩⟩ := B9.made2 rfl rfl gb
        rw [← hp.out]
        go_wp2_with fail
        refine (rgroup_any _ _).mono ?_
        rintro e w4 ⟨rfl, hG4⟩
        have gq := gb.trans (G.trans (by (repeat' (first | (with_reducible exact G.refl _) | (with_reducible refine G.drewN ?_ _) | (with_reducible refine G.drew ?_) | (with_reducible refine G.alloc ?_ _)))) hG4); clear gb; have gb := gq; clear x0 x1 x2 x3 x4 x5 x6 x7 x8 y0 y1 y2 y3 y4 y5 y6 y7 y8; obtain ⟨⟨x0, x1, x2, x3, x4, x5, x6, x7, x8⟩, ⟨y0, y1, y2, y3, y4, y5, y6, y7, y8⟩⟩ := B9.made2 rfl rfl gb
        rw [HV.out]
        go_wp2_with fail
        all_goals
          go_ret
          exact ⟨ret_bool (by rw [HR.out]; first | done | rfl | (simp; done) | (simp; omega) | grind), by (repeat' (first | (with_reducible exact G.refl _) | (with_reducible assumption) | (with_reducible refine G.drewN ?_ _) | (with_reducible refine G.drew ?_) | (with_reducible refine G.alloc ?_ _) | (with_reducible refine G.setCell ?_ (by first | (with_reducible exact Nat.le_refl _) | (simp; done) | (simp; omega) | omega) _) | (with_reducible refine G.trans ?_ (by assumption))))⟩
  · subst hc
    rcases hV with ⟨hv1, hk1⟩ | ⟨hv1, hk1, hk2⟩ | ⟨hv1, hk1, hk2⟩
    · have HR := Lib.hid (show R = false by rw [HX.out]; simp only [if_pos hk1]; exact decide_eq_false (fun k => by have h3 := k.1; omega))
      have HV := Lib.hid hv1
      clear hv1 hk1
      go_enter Tryd.func20, Tryd.ntmps20
      go_wp2_with fail
      refine (rGrouped_any x y _).mono ?_
      rintro e w1 ⟨rfl, hG1⟩
      have gq := gb.trans (G.trans (by (repeat' (first | (with_reducible exact G.refl _) | (with_reducible refine G.drewN ?_ _) | (with_reducible refine G.drew ?_) | (with_reducible refine G.alloc ?_ _)))) hG1); clear gb; have gb := gq; clear x0 x1 x2 x3 x4 x5 x6 x7 x8 y0 y1 y2 y3 y4 y5 y6 y7 y8; obtain ⟨⟨x0, x1, x2, x3, x4, x5, x6, x7, x8⟩, ⟨y0, y1, y2, y3, y4, y5, y6, y7, y8⟩⟩ := B9.made2 rfl rfl gb
      rw [decide_eq_true HG.out]
      go_wp2_with fail
      refine (rCompare_any x.t y.f _).mono ?_
      rintro e w2 ⟨rfl, hG2⟩
      have gq := gb.trans (G.trans (by (repeat' (first | (with_reducible exact G.refl _) | (with_reducible refine G.drewN ?_ _) | (with_reducible refine G.drew ?_) | (with_reducible refine G.alloc ?_ _)))) hG2); clear gb; have gb := gq; clear x0 x1 x2 x3 x4 x5 x6 x7 x8 y0 y1 y2 y3 y4 y5 y6 y7 y8; obtain ⟨⟨x0, x1, x2, x3, x4, x5, x6, x7, x8⟩, ⟨y0, y1, y2, y3, y4, y5, y6, y7, y8⟩⟩ := B9.made2 rfl rfl gb
      rw [← hp.out]
      go_wp2_with fail
      refine (rCompare_any x.t y.f _).mono ?_
      rintro e w3 ⟨rfl, hG3⟩
      have gq := gb.trans (G.trans (by (repeat' (first | (with_reducible exact G.refl _) | (with_reducible refine G.drewN ?_ _) | (with_reducible refine G.drew ?_) | (with_reducible refine G.alloc ?_ _)))) hG3); clear gb; have gb := gq; clear x0 x1 x2 x3 x4 x5 x6 x7 x8 y0 y1 y2 y3 y4 y5 y6 y7 y8; obtain ⟨⟨x0, x1, x2, x3, x4, x5, x6, x7, x8⟩, ⟨y0, y1, y2, y3, y4, y5, y6, y7, y8⟩⟩ := B9.made2 rfl rfl gb
      rw [← hp.out]
      go_wp2_with fail
      refine (rCompare_any y.t x.f _).mono ?_
      rintro e w4 ⟨rfl, hG4⟩
      have gq := gb.trans (G.trans (by (repeat' (first | (with_reducible exact G.refl _) | (with_reducible refine G.drewN ?_ _) | (with_reducible refine G.drew ?_) | (with_reducible refine G.alloc ?_ _)))) hG4); clear gb; have gb := gq; clear x0 x1 x2 x3 x4 x5 x6 x7 x8 y0 y1 y2 y3 y4 y5 y6 y7 y8; obtain ⟨⟨x0, x1, x2, x3, x4, x5, x6, x7, x8⟩, ⟨y0, y1, y2, y3, y4, y5, y6, y7, y8⟩⟩ := B9.made2 rfl rfl gb
      rw [← hq.out]
      go_wp2_with fail
      refine (rgroup_any _ _).mono ?_
      rintro e w5 ⟨rfl, hG5⟩
      have gq := gb.trans (G.trans (by (repeat' (first | (with_reducible exact G.refl _) | (with_reducible refine G.drewN ?_ _) | (with_reducible refine G.drew ?_) | (with_reducible refine G.alloc ?_ _)))) hG5); clear gb; have gb := gq; clear x0 x1 x2 x3 x4 x5 x6 x7 x8 y0 y1 y2 y3 y4 y5 y6 y7 y8; obtain ⟨⟨x0, x1, x2, x3, x4, x5, x6, x7, x8⟩, ⟨y0, y1, y2, y3, y4, y5, y6, y7, y8⟩⟩ := B9.made2 rfl rfl gb
      rw [HV.out]
      go_wp2_with fail
      refine wp_region_held_drew (S := fun w' => w'.cell? ⟨w.heap.size, 0, none⟩ = some (.int .i64 x.k) ∧ w'.cell? ⟨w.heap.size, 1, none⟩ = some (.int .i64 x.f.m) ∧ w'.cell? ⟨w.heap.size, 2, none⟩ = some (.int .i64 x.f.a) ∧ w'.cell? ⟨w.heap.size, 3, none⟩ = some (.int .i64 x.f.s) ∧ w'.cell? ⟨w.heap.size, 4, none⟩ = some (.int .i64 x.f.v) ∧ w'.cell? ⟨w.heap.size, 5, none⟩ = some (.int .i64 x.t.m) ∧ w'.cell? ⟨w.heap.size, 6, none⟩ = some (.int .i64 x.t.a) ∧ w'.cell? ⟨w.heap.size, 7, none⟩ = some (.int .i64 x.t.s) ∧ w'.cell? ⟨w.heap.size, 8, none⟩ = some (.int .i64 x.t.v) ∧ w'.cell? ⟨w.heap.size + 1, 0, none⟩ = some (.int .i64 y.k) ∧ w'.cell? ⟨w.heap.size + 1, 1, none⟩ = some (.int .i64 y.f.m) ∧ w'.cell? ⟨w.heap.size + 1, 2, none⟩ = some (.int .i64 y.f.a) ∧ w'.cell? ⟨w.heap.size + 1, 3, none⟩ = some (.int .i64 y.f.s) ∧ w'.cell? ⟨w.heap.size + 1, 4, none⟩ = some (.int .i64 y.f.v) ∧ w'.cell? ⟨w.heap.size + 1, 5, none⟩ = some (.int .i64 y.t.m) ∧ w'.cell? ⟨w.heap.size + 1, 6, none⟩ = some (.int .i64 y.t.a) ∧ w'.cell? ⟨w.heap.size + 1, 7, none⟩ = some (.int .i64 y.t.s) ∧ w'.cell? ⟨w.heap.size + 1, 8, none⟩ = some (.int .i64 y.t.v)) (by kernel_rfl) (by ((try dsimp only); first | (with_reducible assumption) | ((repeat' (with_reducible apply And.intro)) <;> go_simp))) (fun hH0 => ?_)
      refine wpAnyH_take (i := 0) (oi := { dst := some 44, op := Go.Op.move (Go.Operand.tmp 5), type := 4, pos := "ref.go:81", after := #[], guard := none }) (v := ?_) rfl (by kernel_rfl) (by kernel_rfl) (by kernel_rfl) (fun _ _ _ h => h) (Or.inl ⟨by rfl, ?_⟩) (by assumption) ?_
      rotate_left
      · (intro w hSw; (try dsimp only at hSw); go_simp) <;> (with_reducible rfl)
      simp only [Act.put, List.setIfInBounds_toArray, List.set_cons_zero, List.set_cons_succ]
      refine wpAnyH_take (i := 1) (oi := { dst := some 45, op := Go.Op.unOp Go.UnOp.not 4 (Go.Operand.tmp 44), type := 4, pos := "ref.go:81", after := #[{ on := 0, ground := Go.Ground.data }], guard := none }) (v := ?_) rfl (by kernel_rfl) (by kernel_rfl) (by kernel_rfl) (fun _ _ _ h => h) (Or.inl ⟨by rfl, ?_⟩) (by assumption) ?_
      rotate_left
      · (intro w hSw; (try dsimp only at hSw); go_simp) <;> (with_reducible rfl)
      simp only [Act.put, List.setIfInBounds_toArray, List.set_cons_zero, List.set_cons_succ]
      refine wpAnyH_take (i := 2) (oi := { dst := some 46, op := Go.Op.move (Go.Operand.tmp 45), type := 4, pos := "ref.go:81", after := #[{ on := 1, ground := Go.Ground.data }], guard := none }) (v := ?_) rfl (by kernel_rfl) (by kernel_rfl) (by kernel_rfl) (fun _ _ _ h => h) (Or.inl ⟨by rfl, ?_⟩) (by assumption) ?_
      rotate_left
      · (intro w hSw; (try dsimp only at hSw); go_simp) <;> (with_reducible rfl)
      simp only [Act.put, List.setIfInBounds_toArray, List.set_cons_zero, List.set_cons_succ]
      refine wpAnyH_take (i := 3) (oi := { dst := some 47, op := Go.Op.load 25 (Go.Operand.tmp 2), type := 25, pos := "ref.go:81", after := #[{ on := 2, ground := Go.Ground.guard }], guard := some (2, true) }) (v := undef) rfl (by kernel_rfl) (by kernel_rfl) (by kernel_rfl) (fun _ _ _ h => h) (Or.inr ⟨by rfl, rfl⟩) (by assumption) ?_
      simp only [Act.put, List.setIfInBounds_toArray, List.set_cons_zero, List.set_cons_succ]
      refine wpAnyH_take (i := 4) (oi := { dst := some 48, op := Go.Op.load 25 (Go.Operand.tmp 3), type := 25, pos := "ref.go:81", after := #[{ on := 2, ground := Go.Ground.guard }], guard := some (2, true) }) (v := undef) rfl (by kernel_rfl) (by kernel_rfl) (by kernel_rfl) (fun _ _ _ h => h) (Or.inr ⟨by rfl, rfl⟩) (by assumption) ?_
      simp only [Act.put, List.setIfInBounds_toArray, List.set_cons_zero, List.set_cons_succ]
      refine wpAnyH_take (i := 6) (oi := { dst := some 50, op := Go.Op.load 25 (Go.Operand.tmp 3), type := 25, pos := "ref.go:81", after := #[{ on := 2, ground := Go.Ground.guard }], guard := some (2, true) }) (v := undef) rfl (by kernel_rfl) (by kernel_rfl) (by kernel_rfl) (fun _ _ _ h => h) (Or.inr ⟨by rfl, rfl⟩) (by assumption) ?_
      simp only [Act.put, List.setIfInBounds_toArray, List.set_cons_zero, List.set_cons_succ]
      refine wpAnyH_take (i := 7) (oi := { dst := some 51, op := Go.Op.load 25 (Go.Operand.tmp 2), type := 25, pos := "ref.go:81", after := #[{ on := 2, ground := Go.Ground.guard }], guard := some (2, true) }) (v := undef) rfl (by kernel_rfl) (by kernel_rfl) (by kernel_rfl) (fun _ _ _ h => h) (Or.inr ⟨by rfl, rfl⟩) (by assumption) ?_
      simp only [Act.put, List.setIfInBounds_toArray, List.set_cons_zero, List.set_cons_succ]
      refine wpAnyH_ready (rs := [5]) (by kernel_rfl) (by simp) ?_
      refine (AllReadyH.cons (o := { dst := some 49, op := Go.Op.call { callee := Go.Callee.value (Go.Operand.func 26), args := #[Go.Operand.tmp 47, Go.Operand.tmp 48], argTypes := #[25, 25] }, type := 4, pos := "ref.go:81", after := #[{ on := 3, ground := Go.Ground.data }, { on := 4, ground := Go.Ground.data }, { on := 2, ground := Go.Ground.chain }, { on := 2, ground := Go.Ground.guard }], guard := some (2, true) }) rfl (fun Kc hKc => ?_) AllReadyH.nil)
      go_simp
      refine hKc.out _ _ (by ((try dsimp only); first | (with_reducible assumption) | ((repeat' (with_reducible apply And.intro)) <;> go_simp))) (fun hH3 => ?_)
      clear hKc Kc hH0
      refine wpAnyH_ready (rs := [8]) (by kernel_rfl) (by simp) ?_
      refine (AllReadyH.cons (o := { dst := some 52, op := Go.Op.call { callee := Go.Callee.value (Go.Operand.func 26), args := #[Go.Operand.tmp 50, Go.Operand.tmp 51], argTypes := #[25, 25] }, type := 4, pos := "ref.go:81", after := #[{ on := 6, ground := Go.Ground.data }, { on := 7, ground := Go.Ground.data }, { on := 5, ground := Go.Ground.chain }, { on := 2, ground := Go.Ground.guard }], guard := some (2, true) }) rfl (fun Kc hKc => ?_) AllReadyH.nil)
      go_simp
      refine hKc.out _ _ (by ((try dsimp only); first | (with_reducible assumption) | ((repeat' (with_reducible apply And.intro)) <;> go_simp))) (fun hH4 => ?_)
      clear hKc Kc hH3
      refine wpAnyH_take (i := 9) (oi := { dst := some 53, op := Go.Op.binOp Go.BinOp.eql 4 (Go.Operand.tmp 49) (Go.Operand.tmp 52) 4, type := 4, pos := "ref.go:81", after := #[{ on := 5, ground := Go.Ground.data }, { on := 8, ground := Go.Ground.data }, { on := 2, ground := Go.Ground.guard }], guard := some (2, true) }) (v := undef) rfl (by kernel_rfl) (by kernel_rfl) (by kernel_rfl) (fun _ _ _ h => h) (Or.inr ⟨by rfl, rfl⟩) (by assumption) ?_
      simp only [Act.put, List.setIfInBounds_toArray, List.set_cons_zero, List.set_cons_succ]
      refine wpAnyH_take (i := 10) (oi := { dst := some 54, op := Go.Op.pick (Go.Operand.tmp 46) (Go.Operand.tmp 53) (Go.Operand.const (Go.Value.bool false)), type := 4, pos := "ref.go:81", after := #[{ on := 2, ground := Go.Ground.data }, { on := 9, ground := Go.Ground.data }], guard := none }) (v := ?_) rfl (by kernel_rfl) (by kernel_rfl) (by kernel_rfl) (fun _ _ _ h => h) (Or.inl ⟨by rfl, ?_⟩) (by assumption) ?_
      rotate_left
      · (intro w hSw; (try dsimp only at hSw); go_simp) <;> (with_reducible rfl)
      simp only [Act.put, List.setIfInBounds_toArray, List.set_cons_zero, List.set_cons_succ]
      refine wpAnyH_take (i := 11) (oi := { dst := some 4, op := Go.Op.assign (Go.Operand.tmp 54), type := 4, pos := "ref.go:81", after := #[{ on := 10, ground := Go.Ground.data }, { on := 8, ground := Go.Ground.chain }, { on := 0, ground := Go.Ground.phase }, { on := 1, ground := Go.Ground.phase }, { on := 2, ground := Go.Ground.phase }, { on := 3, ground := Go.Ground.phase }, { on := 4, ground := Go.Ground.phase }, { on := 5, ground := Go.Ground.phase }, { on := 6, ground := Go.Ground.phase }, { on := 7, ground := Go.Ground.phase }, { on := 8, ground := Go.Ground.phase }, { on := 9, ground := Go.Ground.phase }, { on := 10, ground := Go.Ground.phase }], guard := none }) (v := ?_) rfl (by kernel_rfl) (by kernel_rfl) (by kernel_rfl) (fun _ _ _ h => h) (Or.inl ⟨by rfl, ?_⟩) (by assumption) ?_
      rotate_left
      · (intro w hSw; (try dsimp only at hSw); go_simp) <;> (with_reducible rfl)
      simp only [Act.put, List.setIfInBounds_toArray, List.set_cons_zero, List.set_cons_succ]
      refine wpAnyH_done (by kernel_rfl) ?_ _
      go_wp2_with fail
      go_ret
      exact ⟨by rw [HR.out]; first | done | rfl, by (repeat' (first | (with_reducible exact G.refl _) | (with_reducible assumption) | (with_reducible refine G.drewN ?_ _) | (with_reducible refine G.drew ?_) | (with_reducible refine G.alloc ?_ _) | (with_reducible refine G.setCell ?_ (by first | (with_reducible exact Nat.le_refl _) | (simp; done) | (simp; omega) | omega) _) | (with_reducible refine G.trans ?_ (by assumption))))⟩
    · have HR := Lib.hid (show R = false by rw [HX.out]; simp only [if_neg hk1, if_neg hk2]; exact decide_eq_false (by omega))
      rcases hv1 with hv1 | hv1 <;>
      · have HV := Lib.hid hv1
        clear hv1 hk1 hk2
        go_enter Tryd.func20, Tryd.ntmps20
        go_wp2_with fail
        refine (rGrouped_any x y _).mono ?_
        rintro e w1 ⟨rfl, hG1⟩
        have gq := gb.trans (G.trans (by (repeat' (first | (with_reducible exact G.refl _) | (with_reducible refine G.drewN ?_ _) | (with_reducible refine G.drew ?_) | (with_reducible refine G.alloc ?_ _)))) hG1); clear gb; have gb := gq; clear x0 x1 x2 x3 x4 x5 x6 x7 x8 y0 y1 y2 y3 y4 y5 y6 y7 y8; obtain ⟨⟨x0, x1, x2, x3, x4, x5, x6, x7, x8⟩, ⟨y0, y1, y2, y3, y4, y5, y6, y7, y8⟩⟩ := B9.made2 rfl rfl gb
        rw [decide_eq_true HG.out]
        go_wp2_with fail
        refine (rCompare_any x.t y.f _).mono ?_
        rintro e w2 ⟨rfl, hG2⟩
        have gq := gb.trans (G.trans (by (repeat' (first | (with_reducible exact G.refl _) | (with_reducible refine G.drewN ?_ _) | (with_reducible refine G.drew ?_) | (with_reducible refine G.alloc ?_ _)))) hG2); clear gb; have gb := gq; clear x0 x1 x2 x3 x4 x5 x6 x7 x8 y0 y1 y2 y3 y4 y5 y6 y7 y8; obtain ⟨⟨x0, x1, x2, x3, x4, x5, x6, x7, x8⟩, ⟨y0, y1, y2, y3, y4, y5, y6, y7, y8⟩⟩ := B9.made2 rfl rfl gb
        rw [← hp.out]
        go_wp2_with fail
        refine (rCompare_any x.t y.f _).mono ?_
        rintro e w3 ⟨rfl, hG3⟩
        have gq := gb.trans (G.trans (by (repeat' (first | (with_reducible exact G.refl _) | (with_reducible refine G.drewN ?_ _) | (with_reducible refine G.drew ?_) | (with_reducible refine G.alloc ?_ _)))) hG3); clear gb; have gb := gq; clear x0 x1 x2 x3 x4 x5 x6 x7 x8 y0 y1 y2 y3 y4 y5 y6 y7 y8; obtain ⟨⟨x0, x1, x2, x3, x4, x5, x6, x7, x8⟩, ⟨y0, y1, y2, y3, y4, y5, y6, y7, y8⟩⟩ := B9.made2 rfl rfl gb
        rw [← hp.out]
        go_wp2_with fail
        refine (rCompare_any y.t x.f _).mono ?_
        rintro e w4 ⟨rfl, hG4⟩
        have gq := gb.trans (G.trans (by (repeat' (first | (with_reducible exact G.refl _) | (with_reducible refine G.drewN ?_ _) | (with_reducible refine G.drew ?_) | (with_reducible refine G.alloc ?_ _)))) hG4); clear gb; have gb := gq; clear x0 x1 x2 x3 x4 x5 x6 x7 x8 y0 y1 y2 y3 y4 y5 y6 y7 y8; obtain ⟨⟨x0, x1, x2, x3, x4, x5, x6, x7, x8⟩, ⟨y0, y1, y2, y3, y4, y5, y6, y7, y8⟩⟩ := B9.made2 rfl rfl gb
        rw [← hq.out]
        go_wp2_with fail
        refine (rgroup_any _ _).mono ?_
        rintro e w5 ⟨rfl, hG5⟩
        have gq := gb.trans (G.trans (by (repeat' (first | (with_reducible exact G.refl _) | (with_reducible refine G.drewN ?_ _) | (with_reducible refine G.drew ?_) | (with_reducible refine G.alloc ?_ _)))) hG5); clear gb; have gb := gq; clear x0 x1 x2 x3 x4 x5 x6 x7 x8 y0 y1 y2 y3 y4 y5 y6 y7 y8; obtain ⟨⟨x0, x1, x2, x3, x4, x5, x6, x7, x8⟩, ⟨y0, y1, y2, y3, y4, y5, y6, y7, y8⟩⟩ := B9.made2 rfl rfl gb
        rw [HV.out]
        go_wp2_with fail
        all_goals
          go_ret
          exact ⟨ret_bool (by rw [HR.out]; first | done | rfl | (simp; done) | (simp; omega) | grind), by (repeat' (first | (with_reducible exact G.refl _) | (with_reducible assumption) | (with_reducible refine G.drewN ?_ _) | (with_reducible refine G.drew ?_) | (with_reducible refine G.alloc ?_ _) | (with_reducible refine G.setCell ?_ (by first | (with_reducible exact Nat.le_refl _) | (simp; done) | (simp; omega) | omega) _) | (with_reducible refine G.trans ?_ (by assumption))))⟩
    · have HR := Lib.hid (show R = decide (0 ≤ q) by rw [HX.out]; simp only [if_neg hk1, if_pos hk2]; exact decide_eq_decide.2 (by omega))
      rcases hv1 with hv1 | hv1 <;>
      · have HV := Lib.hid hv1
        clear hv1 hk1 hk2
        go_enter Tryd.func20, Tryd.ntmps20
        go_wp2_with fail
        refine (rGrouped_any x y _).mono ?_
        rintro e w1 ⟨rfl, hG1⟩
        have gq := gb.trans (G.trans (by (repeat' (first | (with_reducible exact G.refl _) | (with_reducible refine G.drewN ?_ _) | (with_reducible refine G.drew ?_) | (with_reducible refine G.alloc ?_ _)))) hG1); clear gb; have gb := gq; clear x0 x1 x2 x3 x4 x5 x6 x7 x8 y0 y1 y2 y3 y4 y5 y6 y7 y8; obtain ⟨⟨x0, x1, x2, x3, x4, x5, x6, x7, x8⟩, ⟨y0, y1, y2, y3, y4, y5, y6, y7, y8⟩⟩ := B9.made2 rfl rfl gb
        rw [decide_eq_true HG.out]
        go_wp2_with fail
        refine (rCompare_any x.t y.f _).mono ?_
        rintro e w2 ⟨rfl, hG2⟩
        have gq := gb.trans (G.trans (by (repeat' (first | (with_reducible exact G.refl _) | (with_reducible refine G.drewN ?_ _) | (with_reducible refine G.drew ?_) | (with_reducible refine G.alloc ?_ _)))) hG2); clear gb; have gb := gq; clear x0 x1 x2 x3 x4 x5 x6 x7 x8 y0 y1 y2 y3 y4 y5 y6 y7 y8; obtain ⟨⟨x0, x1, x2, x3, x4, x5, x6, x7, x8⟩, ⟨y0, y1, y2, y3, y4, y5, y6, y7, y8⟩⟩ := B9.made2 rfl rfl gb
        rw [← hp.out]
        go_wp2_with fail
        refine (rCompare_any x.t y.f _).mono ?_
        rintro e w3 ⟨rfl, hG3⟩
        have gq := gb.trans (G.trans (by (repeat' (first | (with_reducible exact G.refl _) | (with_reducible refine G.drewN ?_ _) | (with_reducible refine G.drew ?_) | (with_reducible refine G.alloc ?_ _)))) hG3); clear gb; have gb := gq; clear x0 x1 x2 x3 x4 x5 x6 x7 x8 y0 y1 y2 y3 y4 y5 y6 y7 y8; obtain ⟨⟨x0, x1, x2, x3, x4, x5, x6, x7, x8⟩, ⟨y0, y1, y2, y3, y4, y5, y6, y7, y8⟩⟩ := B9.made2 rfl rfl gb
        rw [← hp.out]
        go_wp2_with fail
        refine (rCompare_any y.t x.f _).mono ?_
        rintro e w4 ⟨rfl, hG4⟩
        have gq := gb.trans (G.trans (by (repeat' (first | (with_reducible exact G.refl _) | (with_reducible refine G.drewN ?_ _) | (with_reducible refine G.drew ?_) | (with_reducible refine G.alloc ?_ _)))) hG4); clear gb; have gb := gq; clear x0 x1 x2 x3 x4 x5 x6 x7 x8 y0 y1 y2 y3 y4 y5 y6 y7 y8; obtain ⟨⟨x0, x1, x2, x3, x4, x5, x6, x7, x8⟩, ⟨y0, y1, y2, y3, y4, y5, y6, y7, y8⟩⟩ := B9.made2 rfl rfl gb
        rw [← hq.out]
        go_wp2_with fail
        refine (rgroup_any _ _).mono ?_
        rintro e w5 ⟨rfl, hG5⟩
        have gq := gb.trans (G.trans (by (repeat' (first | (with_reducible exact G.refl _) | (with_reducible refine G.drewN ?_ _) | (with_reducible refine G.drew ?_) | (with_reducible refine G.alloc ?_ _)))) hG5); clear gb; have gb := gq; clear x0 x1 x2 x3 x4 x5 x6 x7 x8 y0 y1 y2 y3 y4 y5 y6 y7 y8; obtain ⟨⟨x0, x1, x2, x3, x4, x5, x6, x7, x8⟩, ⟨y0, y1, y2, y3, y4, y5, y6, y7, y8⟩⟩ := B9.made2 rfl rfl gb
        rw [HV.out]
        go_wp2_with fail
        all_goals
          go_ret
          exact ⟨ret_bool (by rw [HR.out]; first | done | rfl | (simp; done) | (simp; omega) | grind), by (repeat' (first | (with_reducible exact G.refl _) | (with_reducible assumption) | (with_reducible refine G.drewN ?_ _) | (with_reducible refine G.drew ?_) | (with_reducible refine G.alloc ?_ _) | (with_reducible refine G.setCell ?_ (by first | (with_reducible exact Nat.le_refl _) | (simp; done) | (simp; omega) | omega) _) | (with_reducible refine G.trans ?_ (by assumption))))⟩
  · rcases hV with ⟨hv1, hk1⟩ | ⟨hv1, hk1, hk2⟩ | ⟨hv1, hk1, hk2⟩
    · have HR := Lib.hid (show R = false by rw [HX.out]; simp only [if_pos hk1]; exact decide_eq_false (fun k => by have h3 := k.1; omega))
      have HV := Lib.hid hv1
      clear hv1 hk1
      have hq1 : q ≤ 0 := by omega
      have hq2 : decide (q ≤ 0) = true := decide_eq_true hq1
      go_enter Tryd.func20, Tryd.ntmps20
      go_wp2_with fail
      refine (rGrouped_any x y _).mono ?_
      rintro e w1 ⟨rfl, hG1⟩
      have gq := gb.trans (G.trans (by (repeat' (first | (with_reducible exact G.refl _) | (with_reducible refine G.drewN ?_ _) | (with_reducible refine G.drew ?_) | (with_reducible refine G.alloc ?_ _)))) hG1); clear gb; have gb := gq; clear x0 x1 x2 x3 x4 x5 x6 x7 x8 y0 y1 y2 y3 y4 y5 y6 y7 y8; obtain ⟨⟨x0, x1, x2, x3, x4, x5, x6, x7, x8⟩, ⟨y0, y1, y2, y3, y4, y5, y6, y7, y8⟩⟩ := B9.made2 rfl rfl gb
      rw [decide_eq_true HG.out]
      go_wp2_with fail
      refine (rCompare_any x.t y.f _).mono ?_
      rintro e w2 ⟨rfl, hG2⟩
      have gq := gb.trans (G.trans (by (repeat' (first | (with_reducible exact G.refl _) | (with_reducible refine G.drewN ?_ _) | (with_reducible refine G.drew ?_) | (with_reducible refine G.alloc ?_ _)))) hG2); clear gb; have gb := gq; clear x0 x1 x2 x3 x4 x5 x6 x7 x8 y0 y1 y2 y3 y4 y5 y6 y7 y8; obtain ⟨⟨x0, x1, x2, x3, x4, x5, x6, x7, x8⟩, ⟨y0, y1, y2, y3, y4, y5, y6, y7, y8⟩⟩ := B9.made2 rfl rfl gb
      rw [← hp.out]
      go_wp2_with fail
      refine (rCompare_any y.t x.f _).mono ?_
      rintro e w3 ⟨rfl, hG3⟩
      have gq := gb.trans (G.trans (by (repeat' (first | (with_reducible exact G.refl _) | (with_reducible refine G.drewN ?_ _) | (with_reducible refine G.drew ?_) | (with_reducible refine G.alloc ?_ _)))) hG3); clear gb; have gb := gq; clear x0 x1 x2 x3 x4 x5 x6 x7 x8 y0 y1 y2 y3 y4 y5 y6 y7 y8; obtain ⟨⟨x0, x1, x2, x3, x4, x5, x6, x7, x8⟩, ⟨y0, y1, y2, y3, y4, y5, y6, y7, y8⟩⟩ := B9.made2 rfl rfl gb
      rw [← hq.out]
      go_wp2_with fail
      refine (rCompare_any x.t y.f _).mono ?_
      rintro e w4 ⟨rfl, hG4⟩
      have gq := gb.trans (G.trans (by (repeat' (first | (with_reducible exact G.refl _) | (with_reducible refine G.drewN ?_ _) | (with_reducible refine G.drew ?_) | (with_reducible refine G.alloc ?_ _)))) hG4); clear gb; have gb := gq; clear x0 x1 x2 x3 x4 x5 x6 x7 x8 y0 y1 y2 y3 y4 y5 y6 y7 y8; obtain ⟨⟨x0, x1, x2, x3, x4, x5, x6, x7, x8⟩, ⟨y0, y1, y2, y3, y4, y5, y6, y7, y8⟩⟩ := B9.made2 rfl rfl gb
      rw [← hp.out]
      go_wp2_with fail
      refine (rCompare_any y.t x.f _).mono ?_
      rintro e w5 ⟨rfl, hG5⟩
      have gq := gb.trans (G.trans (by (repeat' (first | (with_reducible exact G.refl _) | (with_reducible refine G.drewN ?_ _) | (with_reducible refine G.drew ?_) | (with_reducible refine G.alloc ?_ _)))) hG5); clear gb; have gb := gq; clear x0 x1 x2 x3 x4 x5 x6 x7 x8 y0 y1 y2 y3 y4 y5 y6 y7 y8; obtain ⟨⟨x0, x1, x2, x3, x4, x5, x6, x7, x8⟩, ⟨y0, y1, y2, y3, y4, y5, y6, y7, y8⟩⟩ := B9.made2 rfl rfl gb
      rw [← hq.out]
      go_wp2_with fail
      refine (rgroup_any _ _).mono ?_
      rintro e w6 ⟨rfl, hG6⟩
      have gq := gb.trans (G.trans (by (repeat' (first | (with_reducible exact G.refl _) | (with_reducible refine G.drewN ?_ _) | (with_reducible refine G.drew ?_) | (with_reducible refine G.alloc ?_ _)))) hG6); clear gb; have gb := gq; clear x0 x1 x2 x3 x4 x5 x6 x7 x8 y0 y1 y2 y3 y4 y5 y6 y7 y8; obtain ⟨⟨x0, x1, x2, x3, x4, x5, x6, x7, x8⟩, ⟨y0, y1, y2, y3, y4, y5, y6, y7, y8⟩⟩ := B9.made2 rfl rfl gb
      rw [HV.out]
      go_wp2_with fail
      refine wp_region_held_drew (S := fun w' => w'.cell? ⟨w.heap.size, 0, none⟩ = some (.int .i64 x.k) ∧ w'.cell? ⟨w.heap.size, 1, none⟩ = some (.int .i64 x.f.m) ∧ w'.cell? ⟨w.heap.size, 2, none⟩ = some (.int .i64 x.f.a) ∧ w'.cell? ⟨w.heap.size, 3, none⟩ = some (.int .i64 x.f.s) ∧ w'.cell? ⟨w.heap.size, 4, none⟩ = some (.int .i64 x.f.v) ∧ w'.cell? ⟨w.heap.size, 5, none⟩ = some (.int .i64 x.t.m) ∧ w'.cell? ⟨w.heap.size, 6, none⟩ = some (.int .i64 x.t.a) ∧ w'.cell? ⟨w.heap.size, 7, none⟩ = some (.int .i64 x.t.s) ∧ w'.cell? ⟨w.heap.size, 8, none⟩ = some (.int .i64 x.t.v) ∧ w'.cell? ⟨w.heap.size + 1, 0, none⟩ = some (.int .i64 y.k) ∧ w'.cell? ⟨w.heap.size + 1, 1, none⟩ = some (.int .i64 y.f.m) ∧ w'.cell? ⟨w.heap.size + 1, 2, none⟩ = some (.int .i64 y.f.a) ∧ w'.cell? ⟨w.heap.size + 1, 3, none⟩ = some (.int .i64 y.f.s) ∧ w'.cell? ⟨w.heap.size + 1, 4, none⟩ = some (.int .i64 y.f.v) ∧ w'.cell? ⟨w.heap.size + 1, 5, none⟩ = some (.int .i64 y.t.m) ∧ w'.cell? ⟨w.heap.size + 1, 6, none⟩ = some (.int .i64 y.t.a) ∧ w'.cell? ⟨w.heap.size + 1, 7, none⟩ = some (.int .i64 y.t.s) ∧ w'.cell? ⟨w.heap.size + 1, 8, none⟩ = some (.int .i64 y.t.v)) (by kernel_rfl) (by ((try dsimp only); first | (with_reducible assumption) | ((repeat' (with_reducible apply And.intro)) <;> go_simp))) (fun hH0 => ?_)
      refine wpAnyH_take (i := 0) (oi := { dst := some 44, op := Go.Op.move (Go.Operand.tmp 5), type := 4, pos := "ref.go:81", after := #[], guard := none }) (v := ?_) rfl (by kernel_rfl) (by kernel_rfl) (by kernel_rfl) (fun _ _ _ h => h) (Or.inl ⟨by rfl, ?_⟩) (by assumption) ?_
      rotate_left
      · (intro w hSw; (try dsimp only at hSw); go_simp) <;> (with_reducible rfl)
      simp only [Act.put, List.setIfInBounds_toArray, List.set_cons_zero, List.set_cons_succ]
      refine wpAnyH_take (i := 1) (oi := { dst := some 45, op := Go.Op.unOp Go.UnOp.not 4 (Go.Operand.tmp 44), type := 4, pos := "ref.go:81", after := #[{ on := 0, ground := Go.Ground.data }], guard := none }) (v := ?_) rfl (by kernel_rfl) (by kernel_rfl) (by kernel_rfl) (fun _ _ _ h => h) (Or.inl ⟨by rfl, ?_⟩) (by assumption) ?_
      rotate_left
      · (intro w hSw; (try dsimp only at hSw); go_simp) <;> (with_reducible rfl)
      simp only [Act.put, List.setIfInBounds_toArray, List.set_cons_zero, List.set_cons_succ]
      refine wpAnyH_take (i := 2) (oi := { dst := some 46, op := Go.Op.move (Go.Operand.tmp 45), type := 4, pos := "ref.go:81", after := #[{ on := 1, ground := Go.Ground.data }], guard := none }) (v := ?_) rfl (by kernel_rfl) (by kernel_rfl) (by kernel_rfl) (fun _ _ _ h => h) (Or.inl ⟨by rfl, ?_⟩) (by assumption) ?_
      rotate_left
      · (intro w hSw; (try dsimp only at hSw); go_simp) <;> (with_reducible rfl)
      simp only [Act.put, List.setIfInBounds_toArray, List.set_cons_zero, List.set_cons_succ]
      refine wpAnyH_take (i := 3) (oi := { dst := some 47, op := Go.Op.load 25 (Go.Operand.tmp 2), type := 25, pos := "ref.go:81", after := #[{ on := 2, ground := Go.Ground.guard }], guard := some (2, true) }) (v := undef) rfl (by kernel_rfl) (by kernel_rfl) (by kernel_rfl) (fun _ _ _ h => h) (Or.inr ⟨by rfl, rfl⟩) (by assumption) ?_
      simp only [Act.put, List.setIfInBounds_toArray, List.set_cons_zero, List.set_cons_succ]
      refine wpAnyH_take (i := 4) (oi := { dst := some 48, op := Go.Op.load 25 (Go.Operand.tmp 3), type := 25, pos := "ref.go:81", after := #[{ on := 2, ground := Go.Ground.guard }], guard := some (2, true) }) (v := undef) rfl (by kernel_rfl) (by kernel_rfl) (by kernel_rfl) (fun _ _ _ h => h) (Or.inr ⟨by rfl, rfl⟩) (by assumption) ?_
      simp only [Act.put, List.setIfInBounds_toArray, List.set_cons_zero, List.set_cons_succ]
      refine wpAnyH_take (i := 6) (oi := { dst := some 50, op := Go.Op.load 25 (Go.Operand.tmp 3), type := 25, pos := "ref.go:81", after := #[{ on := 2, ground := Go.Ground.guard }], guard := some (2, true) }) (v := undef) rfl (by kernel_rfl) (by kernel_rfl) (by kernel_rfl) (fun _ _ _ h => h) (Or.inr ⟨by rfl, rfl⟩) (by assumption) ?_
      simp only [Act.put, List.setIfInBounds_toArray, List.set_cons_zero, List.set_cons_succ]
      refine wpAnyH_take (i := 7) (oi := { dst := some 51, op := Go.Op.load 25 (Go.Operand.tmp 2), type := 25, pos := "ref.go:81", after := #[{ on := 2, ground := Go.Ground.guard }], guard := some (2, true) }) (v := undef) rfl (by kernel_rfl) (by kernel_rfl) (by kernel_rfl) (fun _ _ _ h => h) (Or.inr ⟨by rfl, rfl⟩) (by assumption) ?_
      simp only [Act.put, List.setIfInBounds_toArray, List.set_cons_zero, List.set_cons_succ]
      refine wpAnyH_ready (rs := [5]) (by kernel_rfl) (by simp) ?_
      refine (AllReadyH.cons (o := { dst := some 49, op := Go.Op.call { callee := Go.Callee.value (Go.Operand.func 26), args := #[Go.Operand.tmp 47, Go.Operand.tmp 48], argTypes := #[25, 25] }, type := 4, pos := "ref.go:81", after := #[{ on := 3, ground := Go.Ground.data }, { on := 4, ground := Go.Ground.data }, { on := 2, ground := Go.Ground.chain }, { on := 2, ground := Go.Ground.guard }], guard := some (2, true) }) rfl (fun Kc hKc => ?_) AllReadyH.nil)
      go_simp
      refine hKc.out _ _ (by ((try dsimp only); first | (with_reducible assumption) | ((repeat' (with_reducible apply And.intro)) <;> go_simp))) (fun hH3 => ?_)
      clear hKc Kc hH0
      refine wpAnyH_ready (rs := [8]) (by kernel_rfl) (by simp) ?_
      refine (AllReadyH.cons (o := { dst := some 52, op := Go.Op.call { callee := Go.Callee.value (Go.Operand.func 26), args := #[Go.Operand.tmp 50, Go.Operand.tmp 51], argTypes := #[25, 25] }, type := 4, pos := "ref.go:81", after := #[{ on := 6, ground := Go.Ground.data }, { on := 7, ground := Go.Ground.data }, { on := 5, ground := Go.Ground.chain }, { on := 2, ground := Go.Ground.guard }], guard := some (2, true) }) rfl (fun Kc hKc => ?_) AllReadyH.nil)
      go_simp
      refine hKc.out _ _ (by ((try dsimp only); first | (with_reducible assumption) | ((repeat' (with_reducible apply And.intro)) <;> go_simp))) (fun hH4 => ?_)
      clear hKc Kc hH3
      refine wpAnyH_take (i := 9) (oi := { dst := some 53, op := Go.Op.binOp Go.BinOp.eql 4 (Go.Operand.tmp 49) (Go.Operand.tmp 52) 4, type := 4, pos := "ref.go:81", after := #[{ on := 5, ground := Go.Ground.data }, { on := 8, ground := Go.Ground.data }, { on := 2, ground := Go.Ground.guard }], guard := some (2, true) }) (v := undef) rfl (by kernel_rfl) (by kernel_rfl) (by kernel_rfl) (fun _ _ _ h => h) (Or.inr ⟨by rfl, rfl⟩) (by assumption) ?_
      simp only [Act.put, List.setIfInBounds_toArray, List.set_cons_zero, List.set_cons_succ]
      refine wpAnyH_take (i := 10) (oi := { dst := some 54, op := Go.Op.pick (Go.Operand.tmp 46) (Go.Operand.tmp 53) (Go.Operand.const (Go.Value.bool false)), type := 4, pos := "ref.go:81", after := #[{ on := 2, ground := Go.Ground.data }, { on := 9, ground := Go.Ground.data }], guard := none }) (v := ?_) rfl (by kernel_rfl) (by kernel_rfl) (by kernel_rfl) (fun _ _ _ h => h) (Or.inl ⟨by rfl, ?_⟩) (by assumption) ?_
      rotate_left
      · (intro w hSw; (try dsimp only at hSw); go_simp) <;> (with_reducible rfl)
      simp only [Act.put, List.setIfInBounds_toArray, List.set_cons_zero, List.set_cons_succ]
      refine wpAnyH_take (i := 11) (oi := { dst := some 4, op := Go.Op.assign (Go.Operand.tmp 54), type := 4, pos := "ref.go:81", after := #[{ on := 10, ground := Go.Ground.data }, { on := 8, ground := Go.Ground.chain }, { on := 0, ground := Go.Ground.phase }, { on := 1, ground := Go.Ground.phase }, { on := 2, ground := Go.Ground.phase }, { on := 3, ground := Go.Ground.phase }, { on := 4, ground := Go.Ground.phase }, { on := 5, ground := Go.Ground.phase }, { on := 6, ground := Go.Ground.phase }, { on := 7, ground := Go.Ground.phase }, { on := 8, ground := Go.Ground.phase }, { on := 9, ground := Go.Ground.phase }, { on := 10, ground := Go.Ground.phase }], guard := none }) (v := ?_) rfl (by kernel_rfl) (by kernel_rfl) (by kernel_rfl) (fun _ _ _ h => h) (Or.inl ⟨by rfl, ?_⟩) (by assumption) ?_
      rotate_left
      · (intro w hSw; (try dsimp only at hSw); go_simp) <;> (with_reducible rfl)
      simp only [Act.put, List.setIfInBounds_toArray, List.set_cons_zero, List.set_cons_succ]
      refine wpAnyH_done (by kernel_rfl) ?_ _
      go_wp2_with fail
      go_ret
      exact ⟨by rw [HR.out]; first | done | rfl, by (repeat' (first | (with_reducible exact G.refl _) | (with_reducible assumption) | (with_reducible refine G.drewN ?_ _) | (with_reducible refine G.drew ?_) | (with_reducible refine G.alloc ?_ _) | (with_reducible refine G.setCell ?_ (by first | (with_reducible exact Nat.le_refl _) | (simp; done) | (simp; omega) | omega) _) | (with_reducible refine G.trans ?_ (by assumption))))⟩
    · have HR := Lib.hid (show R = false by rw [HX.out]; simp only [if_neg hk1, if_neg hk2]; exact decide_eq_false (by omega))
      rcases hv1 with hv1 | hv1 <;>
      · have HV := Lib.hid hv1
        clear hv1 hk1 hk2
        go_enter Tryd.func20, Tryd.ntmps20
        go_wp2_with fail
        refine (rGrouped_any x y _).mono ?_
        rintro e w1 ⟨rfl, hG1⟩
        have gq := gb.trans (G.trans (by (repeat' (first | (with_reducible exact G.refl _) | (with_reducible refine G.drewN ?_ _) | (with_reducible refine G.drew ?_) | (with_reducible refine G.alloc ?_ _)))) hG1); clear gb; have gb := gq; clear x0 x1 x2 x3 x4 x5 x6 x7 x8 y0 y1 y2 y3 y4 y5 y6 y7 y8; obtain ⟨⟨x0, x1, x2, x3, x4, x5, x6, x7, x8⟩, ⟨y0, y1, y2, y3, y4, y5, y6, y7, y8⟩⟩ := B9.made2 rfl rfl gb
        rw [decide_eq_true HG.out]
        go_wp2_with fail
        refine (rCompare_any x.t y.f _).mono ?_
        rintro e w2 ⟨rfl, hG2⟩
        have gq := gb.trans (G.trans (by (repeat' (first | (with_reducible exact G.refl _) | (with_reducible refine G.drewN ?_ _) | (with_reducible refine G.drew ?_) | (with_reducible refine G.alloc ?_ _)))) hG2); clear gb; have gb := gq; clear x0 x1 x2 x3 x4 x5 x6 x7 x8 y0 y1 y2 y3 y4 y5 y6 y7 y8; obtain ⟨⟨x0, x1, x2, x3, x4, x5, x6, x7, x8⟩, ⟨y0, y1, y2, y3, y4, y5, y6, y7, y8⟩⟩ := B9.made2 rfl rfl gb
        rw [← hp.out]
        go_wp2_with fail
        refine (rCompare_any y.t x.f _).mono ?_
        rintro e w3 ⟨rfl, hG3⟩
        have gq := gb.trans (G.trans (by (repeat' (first | (with_reducible exact G.refl _) | (with_reducible refine G.drewN ?_ _) | (with_reducible refine G.drew ?_) | (with_reducible refine G.alloc ?_ _)))) hG3); clear gb; have gb := gq; clear x0 x1 x2 x3 x4 x5 x6 x7 x8 y0 y1 y2 y3 y4 y5 y6 y7 y8; obtain ⟨⟨x0, x1, x2, x3, x4, x5, x6, x7, x8⟩, ⟨y0, y1, y2, y3, y4, y5, y6, y7, y8⟩⟩ := B9.made2 rfl rfl gb
        rw [← hq.out]
        go_wp2_with fail
        refine (rCompare_any x.t y.f _).mono ?_
        rintro e w4 ⟨rfl, hG4⟩
        have gq := gb.trans (G.trans (by (repeat' (first | (with_reducible exact G.refl _) | (with_reducible refine G.drewN ?_ _) | (with_reducible refine G.drew ?_) | (with_reducible refine G.alloc ?_ _)))) hG4); clear gb; have gb := gq; clear x0 x1 x2 x3 x4 x5 x6 x7 x8 y0 y1 y2 y3 y4 y5 y6 y7 y8; obtain ⟨⟨x0, x1, x2, x3, x4, x5, x6, x7, x8⟩, ⟨y0, y1, y2, y3, y4, y5, y6, y7, y8⟩⟩ := B9.made2 rfl rfl gb
        rw [← hp.out]
        go_wp2_with fail
        refine (rCompare_any y.t x.f _).mono ?_
        rintro e w5 ⟨rfl, hG5⟩
        have gq := gb.trans (G.trans (by (repeat' (first | (with_reducible exact G.refl _) | (with_reducible refine G.drewN ?_ _) | (with_reducible refine G.drew ?_) | (with_reducible refine G.alloc ?_ _)))) hG5); clear gb; have gb := gq; clear x0 x1 x2 x3 x4 x5 x6 x7 x8 y0 y1 y2 y3 y4 y5 y6 y7 y8; obtain ⟨⟨x0, x1, x2, x3, x4, x5, x6, x7, x8⟩, ⟨y0, y1, y2, y3, y4, y5, y6, y7, y8⟩⟩ := B9.made2 rfl rfl gb
        rw [← hq.out]
        go_wp2_with fail
        refine (rgroup_any _ _).mono ?_
        rintro e w6 ⟨rfl, hG6⟩
        have gq := gb.trans (G.trans (by (repeat' (first | (with_reducible exact G.refl _) | (with_reducible refine G.drewN ?_ _) | (with_reducible refine G.drew ?_) | (with_reducible refine G.alloc ?_ _)))) hG6); clear gb; have gb := gq; clear x0 x1 x2 x3 x4 x5 x6 x7 x8 y0 y1 y2 y3 y4 y5 y6 y7 y8; obtain ⟨⟨x0, x1, x2, x3, x4, x5, x6, x7, x8⟩, ⟨y0, y1, y2, y3, y4, y5, y6, y7, y8⟩⟩ := B9.made2 rfl rfl gb
        rw [HV.out]
        go_wp2_with fail
        all_goals
          go_ret
          exact ⟨ret_bool (by rw [HR.out]; first | done | rfl | (simp; done) | (simp; omega) | grind), by (repeat' (first | (with_reducible exact G.refl _) | (with_reducible assumption) | (with_reducible refine G.drewN ?_ _) | (with_reducible refine G.drew ?_) | (with_reducible refine G.alloc ?_ _) | (with_reducible refine G.setCell ?_ (by first | (with_reducible exact Nat.le_refl _) | (simp; done) | (simp; omega) | omega) _) | (with_reducible refine G.trans ?_ (by assumption))))⟩
    · have HR := Lib.hid (show R = false by rw [HX.out]; simp only [if_neg hk1, if_pos hk2]; exact decide_eq_false (by omega))
      rcases hv1 with hv1 | hv1 <;>
      · have HV := Lib.hid hv1
        clear hv1 hk1 hk2
        go_enter Tryd.func20, Tryd.ntmps20
        go_wp2_with fail
        refine (rGrouped_any x y _).mono ?_
        rintro e w1 ⟨rfl, hG1⟩
        have gq := gb.trans (G.trans (by (repeat' (first | (with_reducible exact G.refl _) | (with_reducible refine G.drewN ?_ _) | (with_reducible refine G.drew ?_) | (with_reducible refine G.alloc ?_ _)))) hG1); clear gb; have gb := gq; clear x0 x1 x2 x3 x4 x5 x6 x7 x8 y0 y1 y2 y3 y4 y5 y6 y7 y8; obtain ⟨⟨x0, x1, x2, x3, x4, x5, x6, x7, x8⟩, ⟨y0, y1, y2, y3, y4, y5, y6, y7, y8⟩⟩ := B9.made2 rfl rfl gb
        rw [decide_eq_true HG.out]
        go_wp2_with fail
        refine (rCompare_any x.t y.f _).mono ?_
        rintro e w2 ⟨rfl, hG2⟩
        have gq := gb.trans (G.trans (by (repeat' (first | (with_reducible exact G.refl _) | (with_reducible refine G.drewN ?_ _) | (with_reducible refine G.drew ?_) | (with_reducible refine G.alloc ?_ _)))) hG2); clear gb; have gb := gq; clear x0 x1 x2 x3 x4 x5 x6 x7 x8 y0 y1 y2 y3 y4 y5 y6 y7 y8; obtain ⟨⟨x0, x1, x2, x3, x4, x5, x6, x7, x8⟩, ⟨y0, y1, y2, y3, y4, y5, y6, y7, y8⟩⟩ := B9.made2 rfl rfl gb
        rw [← hp.out]
        go_wp2_with fail
        refine (rCompare_any y.t x.f _).mono ?_
        rintro e w3 ⟨rfl, hG3⟩
        have gq := gb.trans (G.trans (by (repeat' (first | (with_reducible exact G.refl _) | (with_reducible refine G.drewN ?_ _) | (with_reducible refine G.drew ?_) | (with_reducible refine G.alloc ?_ _)))) hG3); clear gb; have gb := gq; clear x0 x1 x2 x3 x4 x5 x6 x7 x8 y0 y1 y2 y3 y4 y5 y6 y7 y8; obtain ⟨⟨x0, x1, x2, x3, x4, x5, x6, x7, x8⟩, ⟨y0, y1, y2, y3, y4, y5, y6, y7, y8⟩⟩ := B9.made2 rfl rfl gb
        rw [← hq.out]
        go_wp2_with fail
        refine (rCompare_any x.t y.f _).mono ?_
        rintro e w4 ⟨rfl, hG4⟩
        have gq := gb.trans (G.trans (by (repeat' (first | (with_reducible exact G.refl _) | (with_reducible refine G.drewN ?_ _) | (with_reducible refine G.drew ?_) | (with_reducible refine G.alloc ?_ _)))) hG4); clear gb; have gb := gq; clear x0 x1 x2 x3 x4 x5 x6 x7 x8 y0 y1 y2 y3 y4 y5 y6 y7 y8; obtain ⟨⟨x0, x1, x2, x3, x4, x5, x6, x7, x8⟩, ⟨y0, y1, y2, y3, y4, y5, y6, y7, y8⟩⟩ := B9.made2 rfl rfl gb
        rw [← hp.out]
        go_wp2_with fail
        refine (rCompare_any y.t x.f _).mono ?_
        rintro e w5 ⟨rfl, hG5⟩
        have gq := gb.trans (G.trans (by (repeat' (first | (with_reducible exact G.refl _) | (with_reducible refine G.drewN ?_ _) | (with_reducible refine G.drew ?_) | (with_reducible refine G.alloc ?_ _)))) hG5); clear gb; have gb := gq; clear x0 x1 x2 x3 x4 x5 x6 x7 x8 y0 y1 y2 y3 y4 y5 y6 y7 y8; obtain ⟨⟨x0, x1, x2, x3, x4, x5, x6, x7, x8⟩, ⟨y0, y1, y2, y3, y4, y5, y6, y7, y8⟩⟩ := B9.made2 rfl rfl gb
        rw [← hq.out]
        go_wp2_with fail
        refine (rgroup_any _ _).mono ?_
        rintro e w6 ⟨rfl, hG6⟩
        have gq := gb.trans (G.trans (by (repeat' (first | (with_reducible exact G.refl _) | (with_reducible refine G.drewN ?_ _) | (with_reducible refine G.drew ?_) | (with_reducible refine G.alloc ?_ _)))) hG6); clear gb; have gb := gq; clear x0 x1 x2 x3 x4 x5 x6 x7 x8 y0 y1 y2 y3 y4 y5 y6 y7 y8; obtain ⟨⟨x0, x1, x2, x3, x4, x5, x6, x7, x8⟩, ⟨y0, y1, y2, y3, y4, y5, y6, y7, y8⟩⟩ := B9.made2 rfl rfl gb
        rw [HV.out]
        go_wp2_with fail
        all_goals
          go_ret
          exact ⟨ret_bool (by rw [HR.out]; first | done | rfl | (simp; done) | (simp; omega) | grind), by (repeat' (first | (with_reducible exact G.refl _) | (with_reducible assumption) | (with_reducible refine G.drewN ?_ _) | (with_reducible refine G.drew ?_) | (with_reducible refine G.alloc ?_ _) | (with_reducible refine G.setCell ?_ (by first | (with_reducible exact Nat.le_refl _) | (simp; done) | (simp; omega) | omega) _) | (with_reducible refine G.trans ?_ (by assumption))))⟩
  · subst hc
    rcases hV with ⟨hv1, hk1⟩ | ⟨hv1, hk1, hk2⟩ | ⟨hv1, hk1, hk2⟩
    · have HR := Lib.hid (show R = false by rw [HX.out]; simp only [if_pos hk1]; exact decide_eq_false (fun k => by have h3 := k.1; omega))
      have HV := Lib.hid hv1
      clear hv1 hk1
      go_enter Tryd.func20, Tryd.ntmps20
      go_wp2_with fail
      refine (rGrouped_any x y _).mono ?_
      rintro e w1 ⟨rfl, hG1⟩
      have gq := gb.trans (G.trans (by (repeat' (first | (with_reducible exact G.refl _) | (with_reducible refine G.drewN ?_ _) | (with_reducible refine G.drew ?_) | (with_reducible refine G.alloc ?_ _)))) hG1); clear gb; have gb := gq; clear x0 x1 x2 x3 x4 x5 x6 x7 x8 y0 y1 y2 y3 y4 y5 y6 y7 y8; obtain ⟨⟨x0, x1, x2, x3, x4, x5, x6, x7, x8⟩, ⟨y0, y1, y2, y3, y4, y5, y6, y7, y8⟩⟩ := B9.made2 rfl rfl gb
      rw [decide_eq_true HG.out]
      go_wp2_with fail
      refine (rCompare_any x.t y.f _).mono ?_
      rintro e w2 ⟨rfl, hG2⟩
      have gq := gb.trans (G.trans (by (repeat' (first | (with_reducible exact G.refl _) | (with_reducible refine G.drewN ?_ _) | (with_reducible refine G.drew ?_) | (with_reducible refine G.alloc ?_ _)))) hG2); clear gb; have gb := gq; clear x0 x1 x2 x3 x4 x5 x6 x7 x8 y0 y1 y2 y3 y4 y5 y6 y7 y8; obtain ⟨⟨x0, x1, x2, x3, x4, x5, x6, x7, x8⟩, ⟨y0, y1, y2, y3, y4, y5, y6, y7, y8⟩⟩ := B9.made2 rfl rfl gb
      rw [← hp.out]
      go_wp2_with fail
      refine (rCompare_any y.t x.f _).mono ?_
      rintro e w3 ⟨rfl, hG3⟩
      have gq := gb.trans (G.trans (by (repeat' (first | (with_reducible exact G.refl _) | (with_reducible refine G.drewN ?_ _) | (with_reducible refine G.drew ?_) | (with_reducible refine G.alloc ?_ _)))) hG3); clear gb; have gb := gq; clear x0 x1 x2 x3 x4 x5 x6 x7 x8 y0 y1 y2 y3 y4 y5 y6 y7 y8; obtain ⟨⟨x0, x1, x2, x3, x4, x5, x6, x7, x8⟩, ⟨y0, y1, y2, y3, y4, y5, y6, y7, y8⟩⟩ := B9.made2 rfl rfl gb
      rw [← hq.out]
      go_wp2_with fail
      refine (rCompare_any x.t y.f _).mono ?_
      rintro e w4 ⟨rfl, hG4⟩
      have gq := gb.trans (G.trans (by (repeat' (first | (with_reducible exact G.refl _) | (with_reducible refine G.drewN ?_ _) | (with_reducible refine G.drew ?_) | (with_reducible refine G.alloc ?_ _)))) hG4); clear gb; have gb := gq; clear x0 x1 x2 x3 x4 x5 x6 x7 x8 y0 y1 y2 y3 y4 y5 y6 y7 y8; obtain ⟨⟨x0, x1, x2, x3, x4, x5, x6, x7, x8⟩, ⟨y0, y1, y2, y3, y4, y5, y6, y7, y8⟩⟩ := B9.made2 rfl rfl gb
      rw [← hp.out]
      go_wp2_with fail
      refine (rCompare_any y.t x.f _).mono ?_
      rintro e w5 ⟨rfl, hG5⟩
      have gq := gb.trans (G.trans (by (repeat' (first | (with_reducible exact G.refl _) | (with_reducible refine G.drewN ?_ _) | (with_reducible refine G.drew ?_) | (with_reducible refine G.alloc ?_ _)))) hG5); clear gb; have gb := gq; clear x0 x1 x2 x3 x4 x5 x6 x7 x8 y0 y1 y2 y3 y4 y5 y6 y7 y8; obtain ⟨⟨x0, x1, x2, x3, x4, x5, x6, x7, x8⟩, ⟨y0, y1, y2, y3, y4, y5, y6, y7, y8⟩⟩ := B9.made2 rfl rfl gb
      rw [← hq.out]
      go_wp2_with fail
      refine (rgroup_any _ _).mono ?_
      rintro e w6 ⟨rfl, hG6⟩
      have gq := gb.trans (G.trans (by (repeat' (first | (with_reducible exact G.refl _) | (with_reducible refine G.drewN ?_ _) | (with_reducible refine G.drew ?_) | (with_reducible refine G.alloc ?_ _)))) hG6); clear gb; have gb := gq; clear x0 x1 x2 x3 x4 x5 x6 x7 x8 y0 y1 y2 y3 y4 y5 y6 y7 y8; obtain ⟨⟨x0, x1, x2, x3, x4, x5, x6, x7, x8⟩, ⟨y0, y1, y2, y3, y4, y5, y6, y7, y8⟩⟩ := B9.made2 rfl rfl gb
      rw [HV.out]
      go_wp2_with fail
      refine wp_region_held_drew (S := fun w' => w'.cell? ⟨w.heap.size, 0, none⟩ = some (.int .i64 x.k) ∧ w'.cell? ⟨w.heap.size, 1, none⟩ = some (.int .i64 x.f.m) ∧ w'.cell? ⟨w.heap.size, 2, none⟩ = some (.int .i64 x.f.a) ∧ w'.cell? ⟨w.heap.size, 3, none⟩ = some (.int .i64 x.f.s) ∧ w'.cell? ⟨w.heap.size, 4, none⟩ = some (.int .i64 x.f.v) ∧ w'.cell? ⟨w.heap.size, 5, none⟩ = some (.int .i64 x.t.m) ∧ w'.cell? ⟨w.heap.size, 6, none⟩ = some (.int .i64 x.t.a) ∧ w'.cell? ⟨w.heap.size, 7, none⟩ = some (.int .i64 x.t.s) ∧ w'.cell? ⟨w.heap.size, 8, none⟩ = some (.int .i64 x.t.v) ∧ w'.cell? ⟨w.heap.size + 1, 0, none⟩ = some (.int .i64 y.k) ∧ w'.cell? ⟨w.heap.size + 1, 1, none⟩ = some (.int .i64 y.f.m) ∧ w'.cell? ⟨w.heap.size + 1, 2, none⟩ = some (.int .i64 y.f.a) ∧ w'.cell? ⟨w.heap.size + 1, 3, none⟩ = some (.int .i64 y.f.s) ∧ w'.cell? ⟨w.heap.size + 1, 4, none⟩ = some (.int .i64 y.f.v) ∧ w'.cell? ⟨w.heap.size + 1, 5, none⟩ = some (.int .i64 y.t.m) ∧ w'.cell? ⟨w.heap.size + 1, 6, none⟩ = some (.int .i64 y.t.a) ∧ w'.cell? ⟨w.heap.size + 1, 7, none⟩ = some (.int .i64 y.t.s) ∧ w'.cell? ⟨w.heap.size + 1, 8, none⟩ = some (.int .i64 y.t.v)) (by kernel_rfl) (by ((try dsimp only); first | (with_reducible assumption) | ((repeat' (with_reducible apply And.intro)) <;> go_simp))) (fun hH0 => ?_)
      refine wpAnyH_take (i := 0) (oi := { dst := some 44, op := Go.Op.move (Go.Operand.tmp 5), type := 4, pos := "ref.go:81", after := #[], guard := none }) (v := ?_) rfl (by kernel_rfl) (by kernel_rfl) (by kernel_rfl) (fun _ _ _ h => h) (Or.inl ⟨by rfl, ?_⟩) (by assumption) ?_
      rotate_left
      · (intro w hSw; (try dsimp only at hSw); go_simp) <;> (with_reducible rfl)
      simp only [Act.put, List.setIfInBounds_toArray, List.set_cons_zero, List.set_cons_succ]
      refine wpAnyH_take (i := 1) (oi := { dst := some 45, op := Go.Op.unOp Go.UnOp.not 4 (Go.Operand.tmp 44), type := 4, pos := "ref.go:81", after := #[{ on := 0, ground := Go.Ground.data }], guard := none }) (v := ?_) rfl (by kernel_rfl) (by kernel_rfl) (by kernel_rfl) (fun _ _ _ h => h) (Or.inl ⟨by rfl, ?_⟩) (by assumption) ?_
      rotate_left
      · (intro w hSw; (try dsimp only at hSw); go_simp) <;> (with_reducible rfl)
      simp only [Act.put, List.setIfInBounds_toArray, List.set_cons_zero, List.set_cons_succ]
      refine wpAnyH_take (i := 2) (oi := { dst := some 46, op := Go.Op.move (Go.Operand.tmp 45), type := 4, pos := "ref.go:81", after := #[{ on := 1, ground := Go.Ground.data }], guard := none }) (v := ?_) rfl (by kernel_rfl) (by kernel_rfl) (by kernel_rfl) (fun _ _ _ h => h) (Or.inl ⟨by rfl, ?_⟩) (by assumption) ?_
      rotate_left
      · (intro w hSw; (try dsimp only at hSw); go_simp) <;> (with_reducible rfl)
      simp only [Act.put, List.setIfInBounds_toArray, List.set_cons_zero, List.set_cons_succ]
      refine wpAnyH_take (i := 3) (oi := { dst := some 47, op := Go.Op.load 25 (Go.Operand.tmp 2), type := 25, pos := "ref.go:81", after := #[{ on := 2, ground := Go.Ground.guard }], guard := some (2, true) }) (v := undef) rfl (by kernel_rfl) (by kernel_rfl) (by kernel_rfl) (fun _ _ _ h => h) (Or.inr ⟨by rfl, rfl⟩) (by assumption) ?_
      simp only [Act.put, List.setIfInBounds_toArray, List.set_cons_zero, List.set_cons_succ]
      refine wpAnyH_take (i := 4) (oi := { dst := some 48, op := Go.Op.load 25 (Go.Operand.tmp 3), type := 25, pos := "ref.go:81", after := #[{ on := 2, ground := Go.Ground.guard }], guard := some (2, true) }) (v := undef) rfl (by kernel_rfl) (by kernel_rfl) (by kernel_rfl) (fun _ _ _ h => h) (Or.inr ⟨by rfl, rfl⟩) (by assumption) ?_
      simp only [Act.put, List.setIfInBounds_toArray, List.set_cons_zero, List.set_cons_succ]
      refine wpAnyH_take (i := 6) (oi := { dst := some 50, op := Go.Op.load 25 (Go.Operand.tmp 3), type := 25, pos := "ref.go:81", after := #[{ on := 2, ground := Go.Ground.guard }], guard := some (2, true) }) (v := undef) rfl (by kernel_rfl) (by kernel_rfl) (by kernel_rfl) (fun _ _ _ h => h) (Or.inr ⟨by rfl, rfl⟩) (by assumption) ?_
      simp only [Act.put, List.setIfInBounds_toArray, List.set_cons_zero, List.set_cons_succ]
      refine wpAnyH_take (i := 7) (oi := { dst := some 51, op := Go.Op.load 25 (Go.Operand.tmp 2), type := 25, pos := "ref.go:81", after := #[{ on := 2, ground := Go.Ground.guard }], guard := some (2, true) }) (v := undef) rfl (by kernel_rfl) (by kernel_rfl) (by kernel_rfl) (fun _ _ _ h => h) (Or.inr ⟨by rfl, rfl⟩) (by assumption) ?_
      simp only [Act.put, List.setIfInBounds_toArray, List.set_cons_zero, List.set_cons_succ]
      refine wpAnyH_ready (rs := [5]) (by kernel_rfl) (by simp) ?_
      refine (AllReadyH.cons (o := { dst := some 49, op := Go.Op.call { callee := Go.Callee.value (Go.Operand.func 26), args := #[Go.Operand.tmp 47, Go.Operand.tmp 48], argTypes := #[25, 25] }, type := 4, pos := "ref.go:81", after := #[{ on := 3, ground := Go.Ground.data }, { on := 4, ground := Go.Ground.data }, { on := 2, ground := Go.Ground.chain }, { on := 2, ground := Go.Ground.guard }], guard := some (2, true) }) rfl (fun Kc hKc => ?_) AllReadyH.nil)
      go_simp
      refine hKc.out _ _ (by ((try dsimp only); first | (with_reducible assumption) | ((repeat' (with_reducible apply And.intro)) <;> go_simp))) (fun hH3 => ?_)
      clear hKc Kc hH0
      refine wpAnyH_ready (rs := [8]) (by kernel_rfl) (by simp) ?_
      refine (AllReadyH.cons (o := { dst := some 52, op := Go.Op.call { callee := Go.Callee.value (Go.Operand.func 26), args := #[Go.Operand.tmp 50, Go.Operand.tmp 51], argTypes := #[25, 25] }, type := 4, pos := "ref.go:81", after := #[{ on := 6, ground := Go.Ground.data }, { on := 7, ground := Go.Ground.data }, { on := 5, ground := Go.Ground.chain }, { on := 2, ground := Go.Ground.guard }], guard := some (2, true) }) rfl (fun Kc hKc => ?_) AllReadyH.nil)
      go_simp
      refine hKc.out _ _ (by ((try dsimp only); first | (with_reducible assumption) | ((repeat' (with_reducible apply And.intro)) <;> go_simp))) (fun hH4 => ?_)
      clear hKc Kc hH3
      refine wpAnyH_take (i := 9) (oi := { dst := some 53, op := Go.Op.binOp Go.BinOp.eql 4 (Go.Operand.tmp 49) (Go.Operand.tmp 52) 4, type := 4, pos := "ref.go:81", after := #[{ on := 5, ground := Go.Ground.data }, { on := 8, ground := Go.Ground.data }, { on := 2, ground := Go.Ground.guard }], guard := some (2, true) }) (v := undef) rfl (by kernel_rfl) (by kernel_rfl) (by kernel_rfl) (fun _ _ _ h => h) (Or.inr ⟨by rfl, rfl⟩) (by assumption) ?_
      simp only [Act.put, List.setIfInBounds_toArray, List.set_cons_zero, List.set_cons_succ]
      refine wpAnyH_take (i := 10) (oi := { dst := some 54, op := Go.Op.pick (Go.Operand.tmp 46) (Go.Operand.tmp 53) (Go.Operand.const (Go.Value.bool false)), type := 4, pos := "ref.go:81", after := #[{ on := 2, ground := Go.Ground.data }, { on := 9, ground := Go.Ground.data }], guard := none }) (v := ?_) rfl (by kernel_rfl) (by kernel_rfl) (by kernel_rfl) (fun _ _ _ h => h) (Or.inl ⟨by rfl, ?_⟩) (by assumption) ?_
      rotate_left
      · (intro w hSw; (try dsimp only at hSw); go_simp) <;> (with_reducible rfl)
      simp only [Act.put, List.setIfInBounds_toArray, List.set_cons_zero, List.set_cons_succ]
      refine wpAnyH_take (i := 11) (oi := { dst := some 4, op := Go.Op.assign (Go.Operand.tmp 54), type := 4, pos := "ref.go:81", after := #[{ on := 10, ground := Go.Ground.data }, { on := 8, ground := Go.Ground.chain }, { on := 0, ground := Go.Ground.phase }, { on := 1, ground := Go.Ground.phase }, { on := 2, ground := Go.Ground.phase }, { on := 3, ground := Go.Ground.phase }, { on := 4, ground := Go.Ground.phase }, { on := 5, ground := Go.Ground.phase }, { on := 6, ground := Go.Ground.phase }, { on := 7, ground := Go.Ground.phase }, { on := 8, ground := Go.Ground.phase }, { on := 9, ground := Go.Ground.phase }, { on := 10, ground := Go.Ground.phase }], guard := none }) (v := ?_) rfl (by kernel_rfl) (by kernel_rfl) (by kernel_rfl) (fun _ _ _ h => h) (Or.inl ⟨by rfl, ?_⟩) (by assumption) ?_
      rotate_left
      · (intro w hSw; (try dsimp only at hSw); go_simp) <;> (with_reducible rfl)
      simp only [Act.put, List.setIfInBounds_toArray, List.set_cons_zero, List.set_cons_succ]
      refine wpAnyH_done (by kernel_rfl) ?_ _
      go_wp2_with fail
      go_ret
      exact ⟨by rw [HR.out]; first | done | rfl, by (repeat' (first | (with_reducible exact G.refl _) | (with_reducible assumption) | (with_reducible refine G.drewN ?_ _) | (with_reducible refine G.drew ?_) | (with_reducible refine G.alloc ?_ _) | (with_reducible refine G.setCell ?_ (by first | (with_reducible exact Nat.le_refl _) | (simp; done) | (simp; omega) | omega) _) | (with_reducible refine G.trans ?_ (by assumption))))⟩
    · have HR := Lib.hid (show R = false by rw [HX.out]; simp only [if_neg hk1, if_neg hk2]; exact decide_eq_false (by omega))
      rcases hv1 with hv1 | hv1 <;>
      · have HV := Lib.hid hv1
        clear hv1 hk1 hk2
        go_enter Tryd.func20, Tryd.ntmps20
        go_wp2_with fail
        refine (rGrouped_any x y _).mono ?_
        rintro e w1 ⟨rfl, hG1⟩
        have gq := gb.trans (G.trans (by (repeat' (first | (with_reducible exact G.refl _) | (with_reducible refine G.drewN ?_ _) | (with_reducible refine G.drew ?_) | (with_reducible refine G.alloc ?_ _)))) hG1); clear gb; have gb := gq; clear x0 x1 x2 x3 x4 x5 x6 x7 x8 y0 y1 y2 y3 y4 y5 y6 y7 y8; obtain ⟨⟨x0, x1, x2, x3, x4, x5, x6, x7, x8⟩, ⟨y0, y1, y2, y3, y4, y5, y6, y7, y8⟩⟩ := B9.made2 rfl rfl gb
        rw [decide_eq_true HG.out]
        go_wp2_with fail
        refine (rCompare_any x.t y.f _).mono ?_
        rintro e w2 ⟨rfl, hG2⟩
        have gq := gb.trans (G.trans (by (repeat' (first | (with_reducible exact G.refl _) | (with_reducible refine G.drewN ?_ _) | (with_reducible refine G.drew ?_) | (with_reducible refine G.alloc ?_ _)))) hG2); clear gb; have gb := gq; clear x0 x1 x2 x3 x4 x5 x6 x7 x8 y0 y1 y2 y3 y4 y5 y6 y7 y8; obtain ⟨⟨x0, x1, x2, x3, x4, x5, x6, x7, x8⟩, ⟨y0, y1, y2, y3, y4, y5, y6, y7, y8⟩⟩ := B9.made2 rfl rfl gb
        rw [← hp.out]
        go_wp2_with fail
        refine (rCompare_any y.t x.f _).mono ?_
        rintro e w3 ⟨rfl, hG3⟩
        have gq := gb.trans (G.trans (by (repeat' (first | (with_reducible exact G.refl _) | (with_reducible refine G.drewN ?_ _) | (with_reducible refine G.drew ?_) | (with_reducible refine G.alloc ?_ _)))) hG3); clear gb; have gb := gq; clear x0 x1 x2 x3 x4 x5 x6 x7 x8 y0 y1 y2 y3 y4 y5 y6 y7 y8; obtain ⟨⟨x0, x1, x2, x3, x4, x5, x6, x7, x8⟩, ⟨y0, y1, y2, y3, y4, y5, y6, y7, y8⟩⟩ := B9.made2 rfl rfl gb
        rw [← hq.out]
        go_wp2_with fail
        refine (rCompare_any x.t y.f _).mono ?_
        rintro e w4 ⟨rfl, hG4⟩
        have gq := gb.trans (G.trans (by (repeat' (first | (with_reducible exact G.refl _) | (with_reducible refine G.drewN ?_ _) | (with_reducible refine G.drew ?_) | (with_reducible refine G.alloc ?_ _)))) hG4); clear gb; have gb := gq; clear x0 x1 x2 x3 x4 x5 x6 x7 x8 y0 y1 y2 y3 y4 y5 y6 y7 y8; obtain ⟨⟨x0, x1, x2, x3, x4, x5, x6, x7, x8⟩, ⟨y0, y1, y2, y3, y4, y5, y6, y7, y8⟩⟩ := B9.made2 rfl rfl gb
        rw [← hp.out]
        go_wp2_with fail
        refine (rCompare_any y.t x.f _).mono ?_
        rintro e w5 ⟨rfl, hG5⟩
        have gq := gb.trans (G.trans (by (repeat' (first | (with_reducible exact G.refl _) | (with_reducible refine G.drewN ?_ _) | (with_reducible refine G.drew ?_) | (with_reducible refine G.alloc ?_ _)))) hG5); clear gb; have gb := gq; clear x0 x1 x2 x3 x4 x5 x6 x7 x8 y0 y1 y2 y3 y4 y5 y6 y7 y8; obtain ⟨⟨x0, x1, x2, x3, x4, x5, x6, x7, x8⟩, ⟨y0, y1, y2, y3, y4, y5, y6, y7, y8⟩⟩ := B9.made2 rfl rfl gb
        rw [← hq.out]
        go_wp2_with fail
        refine (rgroup_any _ _).mono ?_
        rintro e w6 ⟨rfl, hG6⟩
        have gq := gb.trans (G.trans (by (repeat' (first | (with_reducible exact G.refl _) | (with_reducible refine G.drewN ?_ _) | (with_reducible refine G.drew ?_) | (with_reducible refine G.alloc ?_ _)))) hG6); clear gb; have gb := gq; clear x0 x1 x2 x3 x4 x5 x6 x7 x8 y0 y1 y2 y3 y4 y5 y6 y7 y8; obtain ⟨⟨x0, x1, x2, x3, x4, x5, x6, x7, x8⟩, ⟨y0, y1, y2, y3, y4, y5, y6, y7, y8⟩⟩ := B9.made2 rfl rfl gb
        rw [HV.out]
        go_wp2_with fail
        all_goals
          go_ret
          exact ⟨ret_bool (by rw [HR.out]; first | done | rfl | (simp; done) | (simp; omega) | grind), by (repeat' (first | (with_reducible exact G.refl _) | (with_reducible assumption) | (with_reducible refine G.drewN ?_ _) | (with_reducible refine G.drew ?_) | (with_reducible refine G.alloc ?_ _) | (with_reducible refine G.setCell ?_ (by first | (with_reducible exact Nat.le_refl _) | (simp; done) | (simp; omega) | omega) _) | (with_reducible refine G.trans ?_ (by assumption))))⟩
    · have HR := Lib.hid (show R = true by rw [HX.out]; simp only [if_neg hk1, if_pos hk2]; exact decide_eq_true (by omega))
      rcases hv1 with hv1 | hv1 <;>
      · have HV := Lib.hid hv1
        clear hv1 hk1 hk2
        go_enter Tryd.func20, Tryd.ntmps20
        go_wp2_with fail
        refine (rGrouped_any x y _).mono ?_
        rintro e w1 ⟨rfl, hG1⟩
        have gq := gb.trans (G.trans (by (repeat' (first | (with_reducible exact G.refl _) | (with_reducible refine G.drewN ?_ _) | (with_reducible refine G.drew ?_) | (with_reducible refine G.alloc ?_ _)))) hG1); clear gb; have gb := gq; clear x0 x1 x2 x3 x4 x5 x6 x7 x8 y0 y1 y2 y3 y4 y5 y6 y7 y8; obtain ⟨⟨x0, x1, x2, x3, x4, x5, x6, x7, x8⟩, ⟨y0, y1, y2, y3, y4, y5, y6, y7, y8⟩⟩ := B9.made2 rfl rfl gb
        rw [decide_eq_true HG.out]
        go_wp2_with fail
        refine (rCompare_any x.t y.f _).mono ?_
        rintro e w2 ⟨rfl, hG2⟩
        have gq := gb.trans (G.trans (by (repeat' (first | (with_reducible exact G.refl _) | (with_reducible refine G.drewN ?_ _) | (with_reducible refine G.drew ?_) | (with_reducible refine G.alloc ?_ _)))) hG2); clear gb; have gb := gq; clear x0 x1 x2 x3 x4 x5 x6 x7 x8 y0 y1 y2 y3 y4 y5 y6 y7 y8; obtain ⟨⟨x0, x1, x2, x3, x4, x5, x6, x7, x8⟩, ⟨y0, y1, y2, y3, y4, y5, y6, y7, y8⟩⟩ := B9.made2 rfl rfl gb
        rw [← hp.out]
        go_wp2_with fail
        refine (rCompare_any y.t x.f _).mono ?_
        rintro e w3 ⟨rfl, hG3⟩
        have gq := gb.trans (G.trans (by (repeat' (first | (with_reducible exact G.refl _) | (with_reducible refine G.drewN ?_ _) | (with_reducible refine G.drew ?_) | (with_reducible refine G.alloc ?_ _)))) hG3); clear gb; have gb := gq; clear x0 x1 x2 x3 x4 x5 x6 x7 x8 y0 y1 y2 y3 y4 y5 y6 y7 y8; obtain ⟨⟨x0, x1, x2, x3, x4, x5, x6, x7, x8⟩, ⟨y0, y1, y2, y3, y4, y5, y6, y7, y8⟩⟩ := B9.made2 rfl rfl gb
        rw [← hq.out]
        go_wp2_with fail
        refine (rCompare_any x.t y.f _).mono ?_
        rintro e w4 ⟨rfl, hG4⟩
        have gq := gb.trans (G.trans (by (repeat' (first | (with_reducible exact G.refl _) | (with_reducible refine G.drewN ?_ _) | (with_reducible refine G.drew ?_) | (with_reducible refine G.alloc ?_ _)))) hG4); clear gb; have gb := gq; clear x0 x1 x2 x3 x4 x5 x6 x7 x8 y0 y1 y2 y3 y4 y5 y6 y7 y8; obtain ⟨⟨x0, x1, x2, x3, x4, x5, x6, x7, x8⟩, ⟨y0, y1, y2, y3, y4, y5, y6, y7, y8⟩⟩ := B9.made2 rfl rfl gb
        rw [← hp.out]
        go_wp2_with fail
        refine (rCompare_any y.t x.f _).mono ?_
        rintro e w5 ⟨rfl, hG5⟩
        have gq := gb.trans (G.trans (by (repeat' (first | (with_reducible exact G.refl _) | (with_reducible refine G.drewN ?_ _) | (with_reducible refine G.drew ?_) | (with_reducible refine G.alloc ?_ _)))) hG5); clear gb; have gb := gq; clear x0 x1 x2 x3 x4 x5 x6 x7 x8 y0 y1 y2 y3 y4 y5 y6 y7 y8; obtain ⟨⟨x0, x1, x2, x3, x4, x5, x6, x7, x8⟩, ⟨y0, y1, y2, y3, y4, y5, y6, y7, y8⟩⟩ := B9.made2 rfl rfl gb
        rw [← hq.out]
        go_wp2_with fail
        refine (rgroup_any _ _).mono ?_
        rintro e w6 ⟨rfl, hG6⟩
        have gq := gb.trans (G.trans (by (repeat' (first | (with_reducible exact G.refl _) | (with_reducible refine G.drewN ?_ _) | (with_reducible refine G.drew ?_) | (with_reducible refine G.alloc ?_ _)))) hG6); clear gb; have gb := gq; clear x0 x1 x2 x3 x4 x5 x6 x7 x8 y0 y1 y2 y3 y4 y5 y6 y7 y8; obtain ⟨⟨x0, x1, x2, x3, x4, x5, x6, x7, x8⟩, ⟨y0, y1, y2, y3, y4, y5, y6, y7, y8⟩⟩ := B9.made2 rfl rfl gb
        rw [HV.out]
        go_wp2_with fail
        all_goals
          go_ret
          exact ⟨ret_bool (by rw [HR.out]; first | done | rfl | (simp; done) | (simp; omega) | grind), by (repeat' (first | (with_reducible exact G.refl _) | (with_reducible assumption) | (with_reducible refine G.drewN ?_ _) | (with_reducible refine G.drew ?_) | (with_reducible refine G.alloc ?_ _) | (with_reducible refine G.setCell ?_ (by first | (with_reducible exact Nat.le_refl _) | (simp; done) | (simp; omega) | omega) _) | (with_reducible refine G.trans ?_ (by assumption))))⟩
  · rcases hV with ⟨hv1, hk1⟩ | ⟨hv1, hk1, hk2⟩ | ⟨hv1, hk1, hk2⟩
    · have HR := Lib.hid (show R = (u == v) by rw [HX.out]; simp only [if_pos hk1]; simp only [hc1, hc2, and_self, true_and]; generalize u = a; generalize v = b; cases a <;> (cases b <;> rfl))
      have HV := Lib.hid hv1
      clear hv1 hk1
      have hq1 : ¬ q ≤ 0 := by omega
      have hq2 : decide (q ≤ 0) = false := decide_eq_false hq1
      have hq3 : decide (p ≤ 0) = false := decide_eq_false (by omega)
      go_enter Tryd.func20, Tryd.ntmps20
      go_wp2_with fail
      refine (rGrouped_any x y _).mono ?_
      rintro e w1 ⟨rfl, hG1⟩
      have gq := gb.trans (G.trans (by (repeat' (first | (with_reducible exact G.refl _) | (with_reducible refine G.drewN ?_ _) | (with_reducible refine G.drew ?_) | (with_reducible refine G.alloc ?_ _)))) hG1); clear gb; have gb := gq; clear x0 x1 x2 x3 x4 x5 x6 x7 x8 y0 y1 y2 y3 y4 y5 y6 y7 y8; obtain ⟨⟨x0, x1, x2, x3, x4, x5, x6, x7, x8⟩, ⟨y0, y1, y2, y3, y4, y5, y6, y7, y8⟩⟩ := B9.made2 rfl rfl gb
      rw [decide_eq_true HG.out]
      go_wp2_with fail
      refine (rCompare_any x.t y.f _).mono ?_
      rintro e w2 ⟨rfl, hG2⟩
      have gq := gb.trans (G.trans (by (repeat' (first | (with_reducible exact G.refl _) | (with_reducible refine G.drewN ?_ _) | (with_reducible refine G.drew ?_) | (with_reducible refine G.alloc ?_ _)))) hG2); clear gb; have gb := gq; clear x0 x1 x2 x3 x4 x5 x6 x7 x8 y0 y1 y2 y3 y4 y5 y6 y7 y8; obtain ⟨⟨x0, x1, x2, x3, x4, x5, x6, x7, x8⟩, ⟨y0, y1, y2, y3, y4, y5, y6, y7, y8⟩⟩ := B9.made2 rfl rfl gb
      rw [← hp.out]
      go_wp2_with fail
      refine (rCompare_any y.t x.f _).mono ?_
      rintro e w3 ⟨rfl, hG3⟩
      have gq := gb.trans (G.trans (by (repeat' (first | (with_reducible exact G.refl _) | (with_reducible refine G.drewN ?_ _) | (with_reducible refine G.drew ?_) | (with_reducible refine G.alloc ?_ _)))) hG3); clear gb; have gb := gq; clear x0 x1 x2 x3 x4 x5 x6 x7 x8 y0 y1 y2 y3 y4 y5 y6 y7 y8; obtain ⟨⟨x0, x1, x2, x3, x4, x5, x6, x7, x8⟩, ⟨y0, y1, y2, y3, y4, y5, y6, y7, y8⟩⟩ := B9.made2 rfl rfl gb
      rw [← hq.out]
      go_wp2_with fail
      refine (rCompare_any x.t y.f _).mono ?_
      rintro e w4 ⟨rfl, hG4⟩
      have gq := gb.trans (G.trans (by (repeat' (first | (with_reducible exact G.refl _) | (with_reducible refine G.drewN ?_ _) | (with_reducible refine G.drew ?_) | (with_reducible refine G.alloc ?_ _)))) hG4); clear gb; have gb := gq; clear x0 x1 x2 x3 x4 x5 x6 x7 x8 y0 y1 y2 y3 y4 y5 y6 y7 y8; obtain ⟨⟨x0, x1, x2, x3, x4, x5, x6, x7, x8⟩, ⟨y0, y1, y2, y3, y4, y5, y6, y7, y8⟩⟩ := B9.made2 rfl rfl gb
      rw [← hp.out]
      go_wp2_with fail
      refine (rCompare_any y.t x.f _).mono ?_
      rintro e w5 ⟨rfl, hG5⟩
      have gq := gb.trans (G.trans (by (repeat' (first | (with_reducible exact G.refl _) | (with_reducible refine G.drewN ?_ _) | (with_reducible refine G.drew ?_) | (with_reducible refine G.alloc ?_ _)))) hG5); clear gb; have gb := gq; clear x0 x1 x2 x3 x4 x5 x6 x7 x8 y0 y1 y2 y3 y4 y5 y6 y7 y8; obtain ⟨⟨x0, x1, x2, x3, x4, x5, x6, x7, x8⟩, ⟨y0, y1, y2, y3, y4, y5, y6, y7, y8⟩⟩ := B9.made2 rfl rfl gb
      rw [← hq.out]
      go_wp2_with fail
      refine (rgroup_any _ _).mono ?_
      rintro e w6 ⟨rfl, hG6⟩
      have gq := gb.trans (G.trans (by (repeat' (first | (with_reducible exact G.refl _) | (with_reducible refine G.drewN ?_ _) | (with_reducible refine G.drew ?_) | (with_reducible refine G.alloc ?_ _)))) hG6); clear gb; have gb := gq; clear x0 x1 x2 x3 x4 x5 x6 x7 x8 y0 y1 y2 y3 y4 y5 y6 y7 y8; obtain ⟨⟨x0, x1, x2, x3, x4, x5, x6, x7, x8⟩, ⟨y0, y1, y2, y3, y4, y5, y6, y7, y8⟩⟩ := B9.made2 rfl rfl gb
      rw [HV.out]
      go_wp2_with fail
      go_region_held3 (fun w' => w'.cell? ⟨w.heap.size, 0, none⟩ = some (.int .i64 x.k) ∧ w'.cell? ⟨w.heap.size, 1, none⟩ = some (.int .i64 x.f.m) ∧ w'.cell? ⟨w.heap.size, 2, none⟩ = some (.int .i64 x.f.a) ∧ w'.cell? ⟨w.heap.size, 3, none⟩ = some (.int .i64 x.f.s) ∧ w'.cell? ⟨w.heap.size, 4, none⟩ = some (.int .i64 x.f.v) ∧ w'.cell? ⟨w.heap.size, 5, none⟩ = some (.int .i64 x.t.m) ∧ w'.cell? ⟨w.heap.size, 6, none⟩ = some (.int .i64 x.t.a) ∧ w'.cell? ⟨w.heap.size, 7, none⟩ = some (.int .i64 x.t.s) ∧ w'.cell? ⟨w.heap.size, 8, none⟩ = some (.int .i64 x.t.v) ∧ w'.cell? ⟨w.heap.size + 1, 0, none⟩ = some (.int .i64 y.k) ∧ w'.cell? ⟨w.heap.size + 1, 1, none⟩ = some (.int .i64 y.f.m) ∧ w'.cell? ⟨w.heap.size + 1, 2, none⟩ = some (.int .i64 y.f.a) ∧ w'.cell? ⟨w.heap.size + 1, 3, none⟩ = some (.int .i64 y.f.s) ∧ w'.cell? ⟨w.heap.size + 1, 4, none⟩ = some (.int .i64 y.f.v) ∧ w'.cell? ⟨w.heap.size + 1, 5, none⟩ = some (.int .i64 y.t.m) ∧ w'.cell? ⟨w.heap.size + 1, 6, none⟩ = some (.int .i64 y.t.a) ∧ w'.cell? ⟨w.heap.size + 1, 7, none⟩ = some (.int .i64 y.t.s) ∧ w'.cell? ⟨w.heap.size + 1, 8, none⟩ = some (.int .i64 y.t.v))
        (first | (with_reducible assumption) | ((try dsimp only); (repeat' (with_reducible apply And.intro)) <;> go_simp))
        ((go_at_call 26; (first | ((with_reducible refine (rWithin_any x y _).mono ?_); rintro e w9 ⟨rfl, hG9⟩; have gq := gb.trans (G.trans (by (repeat' (first | (with_reducible exact G.refl _) | (with_reducible refine G.drewN ?_ _) | (with_reducible refine G.drew ?_) | (with_reducible refine G.alloc ?_ _)))) hG9); clear gb; have gb := gq; clear x0 x1 x2 x3 x4 x5 x6 x7 x8 y0 y1 y2 y3 y4 y5 y6 y7 y8; obtain ⟨⟨x0, x1, x2, x3, x4, x5, x6, x7, x8⟩, ⟨y0, y1, y2, y3, y4, y5, y6, y7, y8⟩⟩ := B9.made2 rfl rfl gb; rw [← hu.out]) | ((with_reducible refine (rWithin_any y x _).mono ?_); rintro e w9 ⟨rfl, hG9⟩; have gq := gb.trans (G.trans (by (repeat' (first | (with_reducible exact G.refl _) | (with_reducible refine G.drewN ?_ _) | (with_reducible refine G.drew ?_) | (with_reducible refine G.alloc ?_ _)))) hG9); clear gb; have gb := gq; clear x0 x1 x2 x3 x4 x5 x6 x7 x8 y0 y1 y2 y3 y4 y5 y6 y7 y8; obtain ⟨⟨x0, x1, x2, x3, x4, x5, x6, x7, x8⟩, ⟨y0, y1, y2, y3, y4, y5, y6, y7, y8⟩⟩ := B9.made2 rfl rfl gb; rw [← hv.out]))))
      all_goals
        go_wp2_with fail
        go_ret
        exact ⟨by rw [HR.out]; first | done | rfl | simp, by (repeat' (first | (with_reducible exact G.refl _) | (with_reducible assumption) | (with_reducible refine G.drewN ?_ _) | (with_reducible refine G.drew ?_) | (with_reducible refine G.alloc ?_ _) | (with_reducible refine G.setCell ?_ (by first | (with_reducible exact Nat.le_refl _) | (simp; done) | (simp; omega) | omega) _) | (with_reducible refine G.trans ?_ (by assumption))))⟩
    · have HR := Lib.hid (show R = true by rw [HX.out]; simp only [if_neg hk1, if_neg hk2]; exact decide_eq_true (by omega))
      rcases hv1 with hv1 | hv1 <;>
      · have HV := Lib.hid hv1
        clear hv1 hk1 hk2
        go_enter Tryd.func20, Tryd.ntmps20
        go_wp2_with fail
        refine (rGrouped_any x y _).mono ?_
        rintro e w1 ⟨rfl, hG1⟩
        have gq := gb.trans (G.trans (by (repeat' (first | (with_reducible exact G.refl _) | (with_reducible refine G.drewN ?_ _) | (with_reducible refine G.drew ?_) | (with_reducible refine G.alloc ?_ _)))) hG1); clear gb; have gb := gq; clear x0 x1 x2 x3 x4 x5 x6 x7 x8 y0 y1 y2 y3 y4 y5 y6 y7 y8; obtain ⟨⟨x0, x1, x2, x3, x4, x5, x6, x7, x8⟩, ⟨y0, y1, y2, y3, y4, y5, y6, y7, y8⟩⟩ := B9.made2 rfl rfl gb
        rw [decide_eq_true HG.out]
        go_wp2_with fail
        refine (rCompare_any x.t y.f _).mono ?_
        rintro e w2 ⟨rfl, hG2⟩
        have gq := gb.trans (G.trans (by (repeat' (first | (with_reducible exact G.refl _) | (with_reducible refine G.drewN ?_ _) | (with_reducible refine G.drew ?_) | (with_reducible refine G.alloc ?_ _)))) hG2); clear gb; have gb := gq; clear x0 x1 x2 x3 x4 x5 x6 x7 x8 y0 y1 y2 y3 y4 y5 y6 y7 y8; obtain ⟨⟨x0, x1, x2, x3, x4, x5, x6, x7, x8⟩, ⟨y0, y1, y2, y3, y4, y5, y6, y7, y8⟩⟩ := B9.made2 rfl rfl gb
        rw [← hp.out]
        go_wp2_with fail
        refine (rCompare_any y.t x.f _).mono ?_
        rintro e w3 ⟨rfl, hG3⟩
        have gq := gb.trans (G.trans (by (repeat' (first | (with_reducible exact G.refl _) | (with_reducible refine G.drewN ?_ _) | (with_reducible refine G.drew ?_) | (with_reducible refine G.alloc ?_ _)))) hG3); clear gb; have gb := gq; clear x0 x1 x2 x3 x4 x5 x6 x7 x8 y0 y1 y2 y3 y4 y5 y6 y7 y8; obtain ⟨⟨x0, x1, x2, x3, x4, x5, x6, x7, x8⟩, ⟨y0, y1, y2, y3, y4, y5, y6, y7, y8⟩⟩ := B9.made2 rfl rfl gb
        rw [← hq.out]
        go_wp2_with fail
        refine (rCompare_any x.t y.f _).mono ?_
        rintro e w4 ⟨rfl, hG4⟩
        have gq := gb.trans (G.trans (by (repeat' (first | (with_reducible exact G.refl _) | (with_reducible refine G.drewN ?_ _) | (with_reducible refine G.drew ?_) | (with_reducible refine G.alloc ?_ _)))) hG4); clear gb; have gb := gq; clear x0 x1 x2 x3 x4 x5 x6 x7 x8 y0 y1 y2 y3 y4 y5 y6 y7 y8; obtain ⟨⟨x0, x1, x2, x3, x4, x5, x6, x7, x8⟩, ⟨y0, y1, y2, y3, y4, y5, y6, y7, y8⟩⟩ := B9.made2 rfl rfl gb
        rw [← hp.out]
        go_wp2_with fail
        refine (rCompare_any y.t x.f _).mono ?_
        rintro e w5 ⟨rfl, hG5⟩
        have gq := gb.trans (G.trans (by (repeat' (first | (with_reducible exact G.refl _) | (with_reducible refine G.drewN ?_ _) | (with_reducible refine G.drew ?_) | (with_reducible refine G.alloc ?_ _)))) hG5); clear gb; have gb := gq; clear x0 x1 x2 x3 x4 x5 x6 x7 x8 y0 y1 y2 y3 y4 y5 y6 y7 y8; obtain ⟨⟨x0, x1, x2, x3, x4, x5, x6, x7, x8⟩, ⟨y0, y1, y2, y3, y4, y5, y6, y7, y8⟩⟩ := B9.made2 rfl rfl gb
        rw [← hq.out]
        go_wp2_with fail
        refine (rgroup_any _ _).mono ?_
        rintro e w6 ⟨rfl, hG6⟩
        have gq := gb.trans (G.trans (by (repeat' (first | (with_reducible exact G.refl _) | (with_reducible refine G.drewN ?_ _) | (with_reducible refine G.drew ?_) | (with_reducible refine G.alloc ?_ _)))) hG6); clear gb; have gb := gq; clear x0 x1 x2 x3 x4 x5 x6 x7 x8 y0 y1 y2 y3 y4 y5 y6 y7 y8; obtain ⟨⟨x0, x1, x2, x3, x4, x5, x6, x7, x8⟩, ⟨y0, y1, y2, y3, y4, y5, y6, y7, y8⟩⟩ := B9.made2 rfl rfl gb
        rw [HV.out]
        go_wp2_with fail
        all_goals
          go_ret
          exact ⟨ret_bool (by rw [HR.out]; first | done | rfl | (simp; done) | (simp; omega) | grind), by (repeat' (first | (with_reducible exact G.refl _) | (with_reducible assumption) | (with_reducible refine G.drewN ?_ _) | (with_reducible refine G.drew ?_) | (with_reducible refine G.alloc ?_ _) | (with_reducible refine G.setCell ?_ (by first | (with_reducible exact Nat.le_refl _) | (simp; done) | (simp; omega) | omega) _) | (with_reducible refine G.trans ?_ (by assumption))))⟩
    · have HR := Lib.hid (show R = true by rw [HX.out]; simp only [if_neg hk1, if_pos hk2]; exact decide_eq_true (by omega))
      rcases hv1 with hv1 | hv1 <;>
      · have HV := Lib.hid hv1
        clear hv1 hk1 hk2
        go_enter Tryd.func20, Tryd.ntmps20
        go_wp2_with fail
        refine (rGrouped_any x y _).mono ?_
        rintro e w1 ⟨rfl, hG1⟩
        have gq := gb.trans (G.trans (by (repeat' (first | (with_reducible exact G.refl _) | (with_reducible refine G.drewN ?_ _) | (with_reducible refine G.drew ?_) | (with_reducible refine G.alloc ?_ _)))) hG1); clear gb; have gb := gq; clear x0 x1 x2 x3 x4 x5 x6 x7 x8 y0 y1 y2 y3 y4 y5 y6 y7 y8; obtain ⟨⟨x0, x1, x2, x3, x4, x5, x6, x7, x8⟩, ⟨y0, y1, y2, y3, y4, y5, y6, y7, y8⟩⟩ := B9.made2 rfl rfl gb
        rw [decide_eq_true HG.out]
        go_wp2_with fail
        refine (rCompare_any x.t y.f _).mono ?_
        rintro e w2 ⟨rfl, hG2⟩
        have gq := gb.trans (G.trans (by (repeat' (first | (with_reducible exact G.refl _) | (with_reducible refine G.drewN ?_ _) | (with_reducible refine G.drew ?_) | (with_reducible refine G.alloc ?_ _)))) hG2); clear gb; have gb := gq; clear x0 x1 x2 x3 x4 x5 x6 x7 x8 y0 y1 y2 y3 y4 y5 y6 y7 y8; obtain ⟨⟨x0, x1, x2, x3, x4, x5, x6, x7, x8⟩, ⟨y0, y1, y2, y3, y4, y5, y6, y7, y8⟩⟩ := B9.made2 rfl rfl gb
        rw [← hp.out]
        go_wp2_with fail
        refine (rCompare_any y.t x.f _).mono ?_
        rintro e w3 ⟨rfl, hG3⟩
        have gq := gb.trans (G.trans (by (repeat' (first | (with_reducible exact G.refl _) | (with_reducible refine G.drewN ?_ _) | (with_reducible refine G.drew ?_) | (with_reducible refine G.alloc ?_ _)))) hG3); clear gb; have gb := gq; clear x0 x1 x2 x3 x4 x5 x6 x7 x8 y0 y1 y2 y3 y4 y5 y6 y7 y8; obtain ⟨⟨x0, x1, x2, x3, x4, x5, x6, x7, x8⟩, ⟨y0, y1, y2, y3, y4, y5, y6, y7, y8⟩⟩ := B9.made2 rfl rfl gb
        rw [← hq.out]
        go_wp2_with fail
        refine (rCompare_any x.t y.f _).mono ?_
        rintro e w4 ⟨rfl, hG4⟩
        have gq := gb.trans (G.trans (by (repeat' (first | (with_reducible exact G.refl _) | (with_reducible refine G.drewN ?_ _) | (with_reducible refine G.drew ?_) | (with_reducible refine G.alloc ?_ _)))) hG4); clear gb; have gb := gq; clear x0 x1 x2 x3 x4 x5 x6 x7 x8 y0 y1 y2 y3 y4 y5 y6 y7 y8; obtain ⟨⟨x0, x1, x2, x3, x4, x5, x6, x7, x8⟩, ⟨y0, y1, y2, y3, y4, y5, y6, y7, y8⟩⟩ := B9.made2 rfl rfl gb
        rw [← hp.out]
        go_wp2_with fail
        refine (rCompare_any y.t x.f _).mono ?_
        rintro e w5 ⟨rfl, hG5⟩
        have gq := gb.trans (G.trans (by (repeat' (first | (with_reducible exact G.refl _) | (with_reducible refine G.drewN ?_ _) | (with_reducible refine G.drew ?_) | (with_reducible refine G.alloc ?_ _)))) hG5); clear gb; have gb := gq; clear x0 x1 x2 x3 x4 x5 x6 x7 x8 y0 y1 y2 y3 y4 y5 y6 y7 y8; obtain ⟨⟨x0, x1, x2, x3, x4, x5, x6, x7, x8⟩, ⟨y0, y1, y2, y3, y4, y5, y6, y7, y8⟩⟩ := B9.made2 rfl rfl gb
        rw [← hq.out]
        go_wp2_with fail
        refine (rgroup_any _ _).mono ?_
        rintro e w6 ⟨rfl, hG6⟩
        have gq := gb.trans (G.trans (by (repeat' (first | (with_reducible exact G.refl _) | (with_reducible refine G.drewN ?_ _) | (with_reducible refine G.drew ?_) | (with_reducible refine G.alloc ?_ _)))) hG6); clear gb; have gb := gq; clear x0 x1 x2 x3 x4 x5 x6 x7 x8 y0 y1 y2 y3 y4 y5 y6 y7 y8; obtain ⟨⟨x0, x1, x2, x3, x4, x5, x6, x7, x8⟩, ⟨y0, y1, y2, y3, y4, y5, y6, y7, y8⟩⟩ := B9.made2 rfl rfl gb
        rw [HV.out]
        go_wp2_with fail
        all_goals
          go_ret
          exact ⟨ret_bool (by rw [HR.out]; first | done | rfl | (simp; done) | (simp; omega) | grind), by (repeat' (first | (with_reducible exact G.refl _) | (with_reducible assumption) | (with_reducible refine G.drewN ?_ _) | (with_reducible refine G.drew ?_) | (with_reducible refine G.alloc ?_ _) | (with_reducible refine G.setCell ?_ (by first | (with_reducible exact Nat.le_refl _) | (simp; done) | (simp; omega) | omega) _) | (with_reducible refine G.trans ?_ (by assumption))))⟩
end Go.Proofs.YtgepjpbdfjcaaaaDoor
