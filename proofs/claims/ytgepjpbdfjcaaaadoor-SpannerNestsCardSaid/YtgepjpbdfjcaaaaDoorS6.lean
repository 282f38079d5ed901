import Derived.Test.YtgepjpbdfjcaaaaDoorS5
import Derived.Laws.EntriesVeiled
import Derived.BigRegion
import Derived.Deep.RegionWith
/-! Spanners: what is proper; places; groups, further. -/
namespace Go.Proofs.YtgepjpbdfjcaaaaDoor
open Go.RowKit
attribute [local go_sem] World.cell?_alloc_some

set_option maxRecDepth 100000 in
set_option maxHeartbeats 6400000 in
theorem cross_any (x y : Sp) (w : World) : Calls Tryd.prog 60 #[.agg #[.int .i64 x.k, .int .i64 x.f.m, .int .i64 x.f.a, .int .i64 x.f.s, .int .i64 x.f.v, .int .i64 x.t.m, .int .i64 x.t.a, .int .i64 x.t.s, .int .i64 x.t.v], .agg #[.int .i64 y.k, .int .i64 y.f.m, .int .i64 y.f.a, .int .i64 y.f.s, .int .i64 y.f.v, .int .i64 y.t.m, .int .i64 y.t.a, .int .i64 y.t.s, .int .i64 y.t.v]] w fun e w' => e = .returned (.bool (decide (Crs x y))) ∧ G w w' := by
  obtain ⟨R, hR⟩ : ∃ z : Bool, Hid (z = decide (Crs x y)) := ⟨_, rfl⟩
  rw [← hR.out]
  have gb : G ((w.alloc (.cells #[.int .i64 x.k, .int .i64 x.f.m, .int .i64 x.f.a, .int .i64 x.f.s, .int .i64 x.f.v, .int .i64 x.t.m, .int .i64 x.t.a, .int .i64 x.t.s, .int .i64 x.t.v] 31)).alloc (.cells #[.int .i64 y.k, .int .i64 y.f.m, .int .i64 y.f.a, .int .i64 y.f.s, .int .i64 y.f.v, .int .i64 y.t.m, .int .i64 y.t.a, .int .i64 y.t.s, .int .i64 y.t.v] 31)) ((w.alloc (.cells #[.int .i64 x.k, .int .i64 x.f.m, .int .i64 x.f.a, .int .i64 x.f.s, .int .i64 x.f.v, .int .i64 x.t.m, .int .i64 x.t.a, .int .i64 x.t.s, .int .i64 x.t.v] 31)).alloc (.cells #[.int .i64 y.k, .int .i64 y.f.m, .int .i64 y.f.a, .int .i64 y.f.s, .int .i64 y.f.v, .int .i64 y.t.m, .int .i64 y.t.a, .int .i64 y.t.s, .int .i64 y.t.v] 31)) := G.refl _
  have bb := B9.made2 rfl rfl gb
  obtain ⟨⟨x0, x1, x2, x3, x4, x5, x6, x7, x8⟩, ⟨y0, y1, y2, y3, y4, y5, y6, y7, y8⟩⟩ := bb
  by_cases h : Ovl x y
  · have HO := Lib.hid h
    obtain ⟨u, hu⟩ : ∃ z : Bool, Hid (z = decide (Wi x y)) := ⟨_, rfl⟩
    obtain ⟨v, hv⟩ : ∃ z : Bool, Hid (z = decide (Wi y x)) := ⟨_, rfl⟩
    have HR := Lib.hid (show R = (u == v) by rw [hR.out, hu.out, hv.out]; unfold Crs; grind)
    clear h
    go_enter Tryd.func60, Tryd.ntmps60
    go_wp2_with fail
    go_region_held3 (fun w' => w'.cell? ⟨w.heap.size, 0, none⟩ = some (.int .i64 x.k) ∧ w'.cell? ⟨w.heap.size, 1, none⟩ = some (.int .i64 x.f.m) ∧ w'.cell? ⟨w.heap.size, 2, none⟩ = some (.int .i64 x.f.a) ∧ w'.cell? ⟨w.heap.size, 3, none⟩ = some (.int .i64 x.f.s) ∧ w'.cell? ⟨w.heap.size, 4, none⟩ = some (.int .i64 x.f.v) ∧ w'.cell? ⟨w.heap.size, 5, none⟩ = some (.int .i64 x.t.m) ∧ w'.cell? ⟨w.heap.size, 6, none⟩ = some (.int .i64 x.t.a) ∧ w'.cell? ⟨w.heap.size, 7, none⟩ = some (.int .i64 x.t.s) ∧ w'.cell? ⟨w.heap.size, 8, none⟩ = some (.int .i64 x.t.v) ∧ w'.cell? ⟨w.heap.size + 1, 0, none⟩ = some (.int .i64 y.k) ∧ w'.cell? ⟨w.heap.size + 1, 1, none⟩ = some (.int .i64 y.f.m) ∧ w'.cell? ⟨w.heap.size + 1, 2, none⟩ = some (.int .i64 y.f.a) ∧ w'.cell? ⟨w.heap.size + 1, 3, none⟩ = some (.int .i64 y.f.s) ∧ w'.cell? ⟨w.heap.size + 1, 4, none⟩ = some (.int .i64 y.f.v) ∧ w'.cell? ⟨w.heap.size + 1, 5, none⟩ = some (.int .i64 y.t.m) ∧ w'.cell? ⟨w.heap.size + 1, 6, none⟩ = some (.int .i64 y.t.a) ∧ w'.cell? ⟨w.heap.size + 1, 7, none⟩ = some (.int .i64 y.t.s) ∧ w'.cell? ⟨w.heap.size + 1, 8, none⟩ = some (.int .i64 y.t.v))
      (first | (with_reducible assumption) | ((try dsimp only); (repeat' (with_reducible apply And.intro)) <;> go_simp))
      (first | (go_at_call 61; refine (overlap_any x y _).mono ?_; rintro e w9 ⟨rfl, hG9⟩; have gq := gb.trans (G.trans (by (repeat' (first | (with_reducible exact G.refl _) | (with_reducible refine G.drewN ?_ _) | (with_reducible refine G.drew ?_) | (with_reducible refine G.alloc ?_ _)))) hG9); clear gb; have gb := gq; obtain ⟨⟨x0, x1, x2, x3, x4, x5, x6, x7, x8⟩, ⟨y0, y1, y2, y3, y4, y5, y6, y7, y8⟩⟩ := B9.made2 rfl rfl gb; rw [decide_eq_true HO.out]) | (go_at_call 65; (first | ((with_reducible refine (within_any x y _).mono ?_); rintro e w9 ⟨rfl, hG9⟩; have gq := gb.trans (G.trans (by (repeat' (first | (with_reducible exact G.refl _) | (with_reducible refine G.drewN ?_ _) | (with_reducible refine G.drew ?_) | (with_reducible refine G.alloc ?_ _)))) hG9); clear gb; have gb := gq; obtain ⟨⟨x0, x1, x2, x3, x4, x5, x6, x7, x8⟩, ⟨y0, y1, y2, y3, y4, y5, y6, y7, y8⟩⟩ := B9.made2 rfl rfl gb; rw [← hu.out]) | ((with_reducible refine (within_any y x _).mono ?_); rintro e w9 ⟨rfl, hG9⟩; have gq := gb.trans (G.trans (by (repeat' (first | (with_reducible exact G.refl _) | (with_reducible refine G.drewN ?_ _) | (with_reducible refine G.drew ?_) | (with_reducible refine G.alloc ?_ _)))) hG9); clear gb; have gb := gq; obtain ⟨⟨x0, x1, x2, x3, x4, x5, x6, x7, x8⟩, ⟨y0, y1, y2, y3, y4, y5, y6, y7, y8⟩⟩ := B9.made2 rfl rfl gb; rw [← hv.out]))))
    all_goals
      go_wp2_with fail
      go_ret
      exact ⟨by rw [HR.out]; first | done | rfl | simp, by (repeat' (first | (with_reducible exact G.refl _) | (with_reducible assumption) | (with_reducible refine G.drewN ?_ _) | (with_reducible refine G.drew ?_) | (with_reducible refine G.alloc ?_ _) | (with_reducible refine G.setCell ?_ (by first | (with_reducible exact Nat.le_refl _) | (simp; done) | (simp; omega) | omega) _) | (with_reducible refine G.trans ?_ (by assumption))))⟩
  · have HO := Lib.hid h
    have HR := Lib.hid (show R = false by rw [hR.out]; exact decide_eq_false (fun k => h k.1))
    clear h
    go_enter Tryd.func60, Tryd.ntmps60
    go_wp2_with fail
    refine wp_region_held_drew (S := fun w' => w'.cell? ⟨w.heap.size, 0, none⟩ = some (.int .i64 x.k) ∧ w'.cell? ⟨w.heap.size, 1, none⟩ = some (.int .i64 x.f.m) ∧ w'.cell? ⟨w.heap.size, 2, none⟩ = some (.int .i64 x.f.a) ∧ w'.cell? ⟨w.heap.size, 3, none⟩ = some (.int .i64 x.f.s) ∧ w'.cell? ⟨w.heap.size, 4, none⟩ = some (.int .i64 x.f.v) ∧ w'.cell? ⟨w.heap.size, 5, none⟩ = some (.int .i64 x.t.m) ∧ w'.cell? ⟨w.heap.size, 6, none⟩ = some (.int .i64 x.t.a) ∧ w'.cell? ⟨w.heap.size, 7, none⟩ = some (.int .i64 x.t.s) ∧ w'.cell? ⟨w.heap.size, 8, none⟩ = some (.int .i64 x.t.v) ∧ w'.cell? ⟨w.heap.size + 1, 0, none⟩ = some (.int .i64 y.k) ∧ w'.cell? ⟨w.heap.size + 1, 1, none⟩ = some (.int .i64 y.f.m) ∧ w'.cell? ⟨w.heap.size + 1, 2, none⟩ = some (.int .i64 y.f.a) ∧ w'.cell? ⟨w.heap.size + 1, 3, none⟩ = some (.int .i64 y.f.s) ∧ w'.cell? ⟨w.heap.size + 1, 4, none⟩ = some (.int .i64 y.f.v) ∧ w'.cell? ⟨w.heap.size + 1, 5, none⟩ = some (.int .i64 y.t.m) ∧ w'.cell? ⟨w.heap.size + 1, 6, none⟩ = some (.int .i64 y.t.a) ∧ w'.cell? ⟨w.heap.size + 1, 7, none⟩ = some (.int .i64 y.t.s) ∧ w'.cell? ⟨w.heap.size + 1, 8, none⟩ = some (.int .i64 y.t.v)) (by kernel_rfl) (by ((try dsimp only); first | (with_reducible assumption) | ((repeat' (with_reducible apply And.intro)) <;> go_simp))) (fun hH0 => ?_)
    refine wpAnyH_take (i := 0) (oi := { dst := some 5, op := Go.Op.load 31 (Go.Operand.tmp 2), type := 31, pos := "spanner.go:110", after := #[], guard := none }) (v := ?_) rfl (by kernel_rfl) (by kernel_rfl) (by kernel_rfl) (fun _ _ _ h => h) (Or.inl ⟨by rfl, ?_⟩) (by assumption) ?_
    rotate_left
    · (intro w hSw; (try dsimp only at hSw); go_simp) <;> (with_reducible rfl)
    simp only [Act.put, List.setIfInBounds_toArray, List.set_cons_zero, List.set_cons_succ]
    refine wpAnyH_take (i := 1) (oi := { dst := some 6, op := Go.Op.load 31 (Go.Operand.tmp 3), type := 31, pos := "spanner.go:110", after := #[], guard := none }) (v := ?_) rfl (by kernel_rfl) (by kernel_rfl) (by kernel_rfl) (fun _ _ _ h => h) (Or.inl ⟨by rfl, ?_⟩) (by assumption) ?_
    rotate_left
    · (intro w hSw; (try dsimp only at hSw); go_simp) <;> (with_reducible rfl)
    simp only [Act.put, List.setIfInBounds_toArray, List.set_cons_zero, List.set_cons_succ]
    refine wpAnyH_ready (rs := [2]) (by kernel_rfl) (by simp) ?_
    refine (AllReadyH.cons (o := { dst := some 7, op := Go.Op.call { callee := Go.Callee.value (Go.Operand.func 61), args := #[Go.Operand.tmp 5, Go.Operand.tmp 6], argTypes := #[31, 31] }, type := 4, pos := "spanner.go:110", after := #[{ on := 0, ground := Go.Ground.data }, { on := 1, ground := Go.Ground.data }], guard := none }) rfl (fun Kc hKc => ?_) AllReadyH.nil)
    go_simp
    go_at_call 61
    refine (overlap_any x y _).mono ?_
    rintro e w9 ⟨rfl, hG9⟩
    have gq := gb.trans (G.trans (by (repeat' (first | (with_reducible exact G.refl _) | (with_reducible refine G.drewN ?_ _) | (with_reducible refine G.drew ?_) | (with_reducible refine G.alloc ?_ _)))) hG9)
    clear gb
    have gb := gq
    obtain ⟨⟨x0, x1, x2, x3, x4, x5, x6, x7, x8⟩, ⟨y0, y1, y2, y3, y4, y5, y6, y7, y8⟩⟩ := B9.made2 rfl rfl gb
    rw [decide_eq_false HO.out]
    refine hKc.out _ _ (by ((try dsimp only); first | (with_reducible assumption) | ((repeat' (with_reducible apply And.intro)) <;> go_simp))) (fun hH1 => ?_)
    clear hKc Kc hH0
    refine wpAnyH_take (i := 3) (oi := { dst := some 8, op := Go.Op.move (Go.Operand.tmp 7), type := 4, pos := "spanner.go:110", after := #[{ on := 2, ground := Go.Ground.data }, { on := 2, ground := Go.Ground.chain }], guard := none }) (v := ?_) rfl (by kernel_rfl) (by kernel_rfl) (by kernel_rfl) (fun _ _ _ h => h) (Or.inl ⟨by rfl, ?_⟩) (by assumption) ?_
    rotate_left
    · (intro w hSw; (try dsimp only at hSw); go_simp) <;> (with_reducible rfl)
    simp only [Act.put, List.setIfInBounds_toArray, List.set_cons_zero, List.set_cons_succ]
    refine wpAnyH_take (i := 4) (oi := { dst := some 9, op := Go.Op.load 31 (Go.Operand.tmp 2), type := 31, pos := "spanner.go:110", after := #[{ on := 3, ground := Go.Ground.guard }], guard := some (3, true) }) (v := undef) rfl (by kernel_rfl) (by kernel_rfl) (by kernel_rfl) (fun _ _ _ h => h) (Or.inr ⟨by rfl, rfl⟩) (by assumption) ?_
    simp only [Act.put, List.setIfInBounds_toArray, List.set_cons_zero, List.set_cons_succ]
    refine wpAnyH_take (i := 5) (oi := { dst := some 10, op := Go.Op.load 31 (Go.Operand.tmp 3), type := 31, pos := "spanner.go:110", after := #[{ on := 3, ground := Go.Ground.guard }], guard := some (3, true) }) (v := undef) rfl (by kernel_rfl) (by kernel_rfl) (by kernel_rfl) (fun _ _ _ h => h) (Or.inr ⟨by rfl, rfl⟩) (by assumption) ?_
    simp only [Act.put, List.setIfInBounds_toArray, List.set_cons_zero, List.set_cons_succ]
    refine wpAnyH_take (i := 7) (oi := { dst := some 12, op := Go.Op.load 31 (Go.Operand.tmp 3), type := 31, pos := "spanner.go:110", after := #[{ on := 3, ground := Go.Ground.guard }], guard := some (3, true) }) (v := undef) rfl (by kernel_rfl) (by kernel_rfl) (by kernel_rfl) (fun _ _ _ h => h) (Or.inr ⟨by rfl, rfl⟩) (by assumption) ?_
    simp only [Act.put, List.setIfInBounds_toArray, List.set_cons_zero, List.set_cons_succ]
    refine wpAnyH_take (i := 8) (oi := { dst := some 13, op := Go.Op.load 31 (Go.Operand.tmp 2), type := 31, pos := "spanner.go:110", after := #[{ on := 3, ground := Go.Ground.guard }], guard := some (3, true) }) (v := undef) rfl (by kernel_rfl) (by kernel_rfl) (by kernel_rfl) (fun _ _ _ h => h) (Or.inr ⟨by rfl, rfl⟩) (by assumption) ?_
    simp only [Act.put, List.setIfInBounds_toArray, List.set_cons_zero, List.set_cons_succ]
    refine wpAnyH_ready (rs := [6]) (by kernel_rfl) (by simp) ?_
    refine (AllReadyH.cons (o := { dst := some 11, op := Go.Op.call { callee := Go.Callee.value (Go.Operand.func 65), args := #[Go.Operand.tmp 9, Go.Operand.tmp 10], argTypes := #[31, 31] }, type := 4, pos := "spanner.go:110", after := #[{ on := 4, ground := Go.Ground.data }, { on := 5, ground := Go.Ground.data }, { on := 3, ground := Go.Ground.chain }, { on := 3, ground := Go.Ground.guard }], guard := some (3, true) }) rfl (fun Kc hKc => ?_) AllReadyH.nil)
    go_simp
    refine hKc.out _ _ (by ((try dsimp only); first | (with_reducible assumption) | ((repeat' (with_reducible apply And.intro)) <;> go_simp))) (fun hH2 => ?_)
    clear hKc Kc hH1
    refine wpAnyH_ready (rs := [9]) (by kernel_rfl) (by simp) ?_
    refine (AllReadyH.cons (o := { dst := some 14, op := Go.Op.call { callee := Go.Callee.value (Go.Operand.func 65), args := #[Go.Operand.tmp 12, Go.Operand.tmp 13], argTypes := #[31, 31] }, type := 4, pos := "spanner.go:110", after := #[{ on := 7, ground := Go.Ground.data }, { on := 8, ground := Go.Ground.data }, { on := 6, ground := Go.Ground.chain }, { on := 3, ground := Go.Ground.guard }], guard := some (3, true) }) rfl (fun Kc hKc => ?_) AllReadyH.nil)
    go_simp
    refine hKc.out _ _ (by ((try dsimp only); first | (with_reducible assumption) | ((repeat' (with_reducible apply And.intro)) <;> go_simp))) (fun hH3 => ?_)
    clear hKc Kc hH2
    refine wpAnyH_take (i := 10) (oi := { dst := some 15, op := Go.Op.binOp Go.BinOp.eql 4 (Go.Operand.tmp 11) (Go.Operand.tmp 14) 4, type := 4, pos := "spanner.go:110", after := #[{ on := 6, ground := Go.Ground.data }, { on := 9, ground := Go.Ground.data }, { on := 3, ground := Go.Ground.guard }], guard := some (3, true) }) (v := undef) rfl (by kernel_rfl) (by kernel_rfl) (by kernel_rfl) (fun _ _ _ h => h) (Or.inr ⟨by rfl, rfl⟩) (by assumption) ?_
    simp only [Act.put, List.setIfInBounds_toArray, List.set_cons_zero, List.set_cons_succ]
    refine wpAnyH_take (i := 11) (oi := { dst := some 16, op := Go.Op.pick (Go.Operand.tmp 8) (Go.Operand.tmp 15) (Go.Operand.const (Go.Value.bool false)), type := 4, pos := "spanner.go:110", after := #[{ on := 3, ground := Go.Ground.data }, { on := 10, ground := Go.Ground.data }], guard := none }) (v := ?_) rfl (by kernel_rfl) (by kernel_rfl) (by kernel_rfl) (fun _ _ _ h => h) (Or.inl ⟨by rfl, ?_⟩) (by assumption) ?_
    rotate_left
    · (intro w hSw; (try dsimp only at hSw); go_simp) <;> (with_reducible rfl)
    simp only [Act.put, List.setIfInBounds_toArray, List.set_cons_zero, List.set_cons_succ]
    refine wpAnyH_take (i := 12) (oi := { dst := some 4, op := Go.Op.assign (Go.Operand.tmp 16), type := 4, pos := "spanner.go:110", after := #[{ on := 11, ground := Go.Ground.data }, { on := 9, ground := Go.Ground.chain }, { on := 0, ground := Go.Ground.phase }, { on := 1, ground := Go.Ground.phase }, { on := 2, ground := Go.Ground.phase }, { on := 3, ground := Go.Ground.phase }, { on := 4, ground := Go.Ground.phase }, { on := 5, ground := Go.Ground.phase }, { on := 6, ground := Go.Ground.phase }, { on := 7, ground := Go.Ground.phase }, { on := 8, ground := Go.Ground.phase }, { on := 9, ground := Go.Ground.phase }, { on := 10, ground := Go.Ground.phase }, { on := 11, ground := Go.Ground.phase }], guard := none }) (v := ?_) rfl (by kernel_rfl) (by kernel_rfl) (by kernel_rfl) (fun _ _ _ h => h) (Or.inl ⟨by rfl, ?_⟩) (by assumption) ?_
    rotate_left
    · (intro w hSw; (try dsimp only at hSw); go_simp) <;> (with_reducible rfl)
    simp only [Act.put, List.setIfInBounds_toArray, List.set_cons_zero, List.set_cons_succ]
    refine wpAnyH_done (by kernel_rfl) ?_ _
    go_wp2_with fail
    go_ret
    exact ⟨by rw [HR.out]; first | done | rfl, by (repeat' (first | (with_reducible exact G.refl _) | (with_reducible assumption) | (with_reducible refine G.drewN ?_ _) | (with_reducible refine G.drew ?_) | (with_reducible refine G.alloc ?_ _) | (with_reducible refine G.setCell ?_ (by first | (with_reducible exact Nat.le_refl _) | (simp; done) | (simp; omega) | omega) _) | (with_reducible refine G.trans ?_ (by assumption))))⟩
end Go.Proofs.YtgepjpbdfjcaaaaDoor
