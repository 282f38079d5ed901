import Derived.Test.YtgepjpbdfjcaaaaDoorS18
import Derived.Test.YtgepjpbdfjcaaaaDoorS15
import Derived.BigRegion
/-! Spanners: Shift of the reference -/
namespace Go.Proofs.YtgepjpbdfjcaaaaDoor
open Go.RowKit
attribute [local go_sem] World.cell?_alloc_some

theorem rCovers_k (x : Sp) (p : Pl) (K : Int) (w : World) (h : K = x.k) : Calls Tryd.prog 25 #[.agg #[.int .i64 K, .int .i64 x.f.m, .int .i64 x.f.a, .int .i64 x.f.s, .int .i64 x.f.v, .int .i64 x.t.m, .int .i64 x.t.a, .int .i64 x.t.s, .int .i64 x.t.v], .agg #[.int .i64 p.m, .int .i64 p.a, .int .i64 p.s, .int .i64 p.v]] w fun e w' => e = .returned (.bool (decide (Cov x p))) ∧ G w w' := by
  subst h
  exact rCovers_any x p w
set_option maxRecDepth 100000 in
set_option maxHeartbeats 12800000 in
theorem rShift_any (a : Option Addr) (l : List Sp) (n c : Nat) (p : Pl) (w : World) (hn : l.length = n) (hl : n ≤ 20) (h1 : SpsAt w a l) :
    Calls Tryd.prog 32 #[.slice a n c, .agg #[.int .i64 p.m, .int .i64 p.a, .int .i64 p.s, .int .i64 p.v]] w fun e w' => e = .returned (.int .i64 (shS p l)) ∧ G w w' := by
  subst hn
  have H1 := Lib.hid h1
  clear h1
  obtain ⟨R, hR⟩ : ∃ z : Int, Hid (z = shS p l) := ⟨_, rfl⟩
  rw [← hR.out]
  have gw : ∀ {W : World}, G (w.alloc (.cells #[.int .i64 p.m, .int .i64 p.a, .int .i64 p.s, .int .i64 p.v] 23)) W → G w W := fun g => G.trans (G.alloc (G.refl w) _) g
  go_enter Tryd.func32, Tryd.ntmps32
  go_wp2_with fail
  go_loopg [5] l.length (fun q k wr => ∃ i : Nat, k = .int .i64 i ∧ q = l.length - i ∧ i ≤ l.length ∧ Hid (R = shS p (l.drop i)) ∧ Hid (G (w.alloc (.cells #[.int .i64 p.m, .int .i64 p.a, .int .i64 p.s, .int .i64 p.v] 23)) wr))
  case atStart => exact ⟨0, rfl, rfl, by omega, Lib.hid (by rw [hR.out]; simp), Lib.hid (by (repeat' (first | (with_reducible exact G.refl _) | (with_reducible assumption) | (with_reducible refine G.drewN ?_ _) | (with_reducible refine G.drew ?_) | (with_reducible refine G.alloc ?_ _) | (with_reducible refine G.setCell ?_ (by first | (with_reducible exact Nat.le_refl _) | (simp; done) | (simp; omega) | omega) _) | (with_reducible refine G.trans ?_ (by assumption)))))⟩
  case round =>
    obtain ⟨i, rfl, hq, hi, hA, gr⟩ := hrel
    have HQ := Lib.hid hq
    clear hq
    by_cases hin : i < l.length
    · obtain ⟨x, hp⟩ : ∃ z, l[i]? = some z := ⟨l[i], List.getElem?_eq_getElem hin⟩
      rcases H1.out with hz | ⟨b0, of, rfl, fc⟩
      · rw [hz] at hin; exact absurd hin (by simp)
      have FC := Lib.hid fc
      have HP := Lib.hid hp
      have gp := gr.out
      obtain ⟨x0, x1, x2, x3, x4, x5, x6, x7, x8⟩ := (fc i _ hp).later (gw gp)
      obtain ⟨z0, z1, z2, z3⟩ := B4.made rfl gp
      have HST := Lib.hid (hA.out.trans (shS_step (p := p) hp))
      have b1 : (0 : Int) ≤ (i : Int) := by omega
      have b2 : (i : Int) < (l.length : Int) := by omega
      have q1 := IntWalk.i64_in ((i : Int) + 1) (by omega)
      obtain ⟨cx, hcx⟩ : ∃ z : Bool, Hid (z = decide (Cov x p)) := ⟨_, rfl⟩
      clear fc hp
      by_cases k4 : x.k = 4
      · have HK4 := Lib.hid k4
        have HKK := Lib.hid k4.symm
        have HCO := Lib.hid (show OctS p x ↔ Cov x p from ⟨fun h => h.2, fun h => ⟨by omega, h⟩⟩)
        rw [k4] at x0
        clear k4
        go_wp2_with fail
        refine wp_region_held_drew (S := fun w' => w'.cell? ⟨b0, of + i * 9, none⟩ = some (.int .i64 4) ∧ w'.cell? ⟨b0, of + i * 9 + 1, none⟩ = some (.int .i64 x.f.m) ∧ w'.cell? ⟨b0, of + i * 9 + 2, none⟩ = some (.int .i64 x.f.a) ∧ w'.cell? ⟨b0, of + i * 9 + 3, none⟩ = some (.int .i64 x.f.s) ∧ w'.cell? ⟨b0, of + i * 9 + 4, none⟩ = some (.int .i64 x.f.v) ∧ w'.cell? ⟨b0, of + i * 9 + 5, none⟩ = some (.int .i64 x.t.m) ∧ w'.cell? ⟨b0, of + i * 9 + 6, none⟩ = some (.int .i64 x.t.a) ∧ w'.cell? ⟨b0, of + i * 9 + 7, none⟩ = some (.int .i64 x.t.s) ∧ w'.cell? ⟨b0, of + i * 9 + 8, none⟩ = some (.int .i64 x.t.v) ∧ w'.cell? ⟨w.heap.size, 0, none⟩ = some (.int .i64 p.m) ∧ w'.cell? ⟨w.heap.size, 1, none⟩ = some (.int .i64 p.a) ∧ w'.cell? ⟨w.heap.size, 2, none⟩ = some (.int .i64 p.s) ∧ w'.cell? ⟨w.heap.size, 3, none⟩ = some (.int .i64 p.v)) (by kernel_rfl) (by ((try dsimp only); first | (with_reducible assumption) | ((repeat' (with_reducible apply And.intro)) <;> go_simp))) (fun hH0 => ?_)
        refine wpAnyH_take (i := 0) (oi := { dst := some 12, op := Go.Op.move (Go.Operand.tmp 0), type := 40, pos := "ref.go:131", after := #[], guard := none }) (v := ?_) rfl (by kernel_rfl) (by kernel_rfl) (by kernel_rfl) (fun _ _ _ h => h) (Or.inl ⟨by rfl, ?_⟩) (by assumption) ?_
        rotate_left
        · (intro w hSw; (try dsimp only at hSw); go_simp) <;> (with_reducible rfl)
        simp only [Act.put, List.setIfInBounds_toArray, List.set_cons_zero, List.set_cons_succ]
        refine wpAnyH_take (i := 1) (oi := { dst := some 13, op := Go.Op.move (Go.Operand.tmp 5), type := 3, pos := "ref.go:131", after := #[], guard := none }) (v := ?_) rfl (by kernel_rfl) (by kernel_rfl) (by kernel_rfl) (fun _ _ _ h => h) (Or.inl ⟨by rfl, ?_⟩) (by assumption) ?_
        rotate_left
        · (intro w hSw; (try dsimp only at hSw); go_simp) <;> (with_reducible rfl)
        simp only [Act.put, List.setIfInBounds_toArray, List.set_cons_zero, List.set_cons_succ]
        refine wpAnyH_take (i := 2) (oi := { dst := some 14, op := Go.Op.indexAddr 40 (Go.Operand.tmp 12) (Go.Operand.tmp 13), type := 0, pos := "ref.go:131", after := #[{ on := 0, ground := Go.Ground.data }, { on := 1, ground := Go.Ground.data }], guard := none }) (v := ?_) rfl (by kernel_rfl) (by kernel_rfl) (by kernel_rfl) (fun _ _ _ h => h) (Or.inl ⟨by rfl, ?_⟩) (by assumption) ?_
        rotate_left
        · (intro w hSw; (try dsimp only at hSw); go_simp) <;> (with_reducible rfl)
        simp only [Act.put, List.setIfInBounds_toArray, List.set_cons_zero, List.set_cons_succ]
        refine wpAnyH_take (i := 3) (oi := { dst := some 15, op := Go.Op.fieldAddr 25 (Go.Operand.tmp 14) 0, type := 0, pos := "ref.go:131", after := #[{ on := 2, ground := Go.Ground.data }], guard := none }) (v := ?_) rfl (by kernel_rfl) (by kernel_rfl) (by kernel_rfl) (fun _ _ _ h => h) (Or.inl ⟨by rfl, ?_⟩) (by assumption) ?_
        rotate_left
        · (intro w hSw; (try dsimp only at hSw); go_simp) <;> (with_reducible rfl)
        simp only [Act.put, List.setIfInBounds_toArray, List.set_cons_zero, List.set_cons_succ]
        refine wpAnyH_take (i := 4) (oi := { dst := some 16, op := Go.Op.load 3 (Go.Operand.tmp 15), type := 3, pos := "ref.go:131", after := #[{ on := 3, ground := Go.Ground.data }], guard := none }) (v := ?_) rfl (by kernel_rfl) (by kernel_rfl) (by kernel_rfl) (fun _ _ _ h => h) (Or.inl ⟨by rfl, ?_⟩) (by assumption) ?_
        rotate_left
        · (intro w hSw; (try dsimp only at hSw); go_simp) <;> (with_reducible rfl)
        simp only [Act.put, List.setIfInBounds_toArray, List.set_cons_zero, List.set_cons_succ]
        refine wpAnyH_take (i := 5) (oi := { dst := some 17, op := Go.Op.binOp Go.BinOp.eql 3 (Go.Operand.tmp 16) (Go.Operand.const (Go.Value.int Go.IntKind.i64 4)) 3, type := 4, pos := "ref.go:131", after := #[{ on := 4, ground := Go.Ground.data }], guard := none }) (v := ?_) rfl (by kernel_rfl) (by kernel_rfl) (by kernel_rfl) (fun _ _ _ h => h) (Or.inl ⟨by rfl, ?_⟩) (by assumption) ?_
        rotate_left
        · (intro w hSw; (try dsimp only at hSw); go_simp) <;> (with_reducible rfl)
        simp only [Act.put, List.setIfInBounds_toArray, List.set_cons_zero, List.set_cons_succ]
        refine wpAnyH_take (i := 6) (oi := { dst := some 18, op := Go.Op.move (Go.Operand.tmp 17), type := 4, pos := "ref.go:131", after := #[{ on := 5, ground := Go.Ground.data }], guard := none }) (v := ?_) rfl (by kernel_rfl) (by kernel_rfl) (by kernel_rfl) (fun _ _ _ h => h) (Or.inl ⟨by rfl, ?_⟩) (by assumption) ?_
        rotate_left
        · (intro w hSw; (try dsimp only at hSw); go_simp) <;> (with_reducible rfl)
        simp only [Act.put, List.setIfInBounds_toArray, List.set_cons_zero, List.set_cons_succ]
        refine wpAnyH_take (i := 7) (oi := { dst := some 19, op := Go.Op.move (Go.Operand.tmp 0), type := 40, pos := "ref.go:131", after := #[{ on := 6, ground := Go.Ground.guard }], guard := some (6, false) }) (v := undef) rfl (by kernel_rfl) (by kernel_rfl) (by kernel_rfl) (fun _ _ _ h => h) (Or.inr ⟨by rfl, rfl⟩) (by assumption) ?_
        simp only [Act.put, List.setIfInBounds_toArray, List.set_cons_zero, List.set_cons_succ]
        refine wpAnyH_take (i := 8) (oi := { dst := some 20, op := Go.Op.move (Go.Operand.tmp 5), type := 3, pos := "ref.go:131", after := #[{ on := 6, ground := Go.Ground.guard }], guard := some (6, false) }) (v := undef) rfl (by kernel_rfl) (by kernel_rfl) (by kernel_rfl) (fun _ _ _ h => h) (Or.inr ⟨by rfl, rfl⟩) (by assumption) ?_
        simp only [Act.put, List.setIfInBounds_toArray, List.set_cons_zero, List.set_cons_succ]
        refine wpAnyH_take (i := 9) (oi := { dst := some 21, op := Go.Op.indexAddr 40 (Go.Operand.tmp 19) (Go.Operand.tmp 20), type := 0, pos := "ref.go:131", after := #[{ on := 7, ground := Go.Ground.data }, { on := 8, ground := Go.Ground.data }, { on := 6, ground := Go.Ground.guard }], guard := some (6, false) }) (v := undef) rfl (by kernel_rfl) (by kernel_rfl) (by kernel_rfl) (fun _ _ _ h => h) (Or.inr ⟨by rfl, rfl⟩) (by assumption) ?_
        simp only [Act.put, List.setIfInBounds_toArray, List.set_cons_zero, List.set_cons_succ]
        refine wpAnyH_take (i := 10) (oi := { dst := some 22, op := Go.Op.fieldAddr 25 (Go.Operand.tmp 21) 0, type := 0, pos := "ref.go:131", after := #[{ on := 9, ground := Go.Ground.data }, { on := 6, ground := Go.Ground.guard }], guard := some (6, false) }) (v := undef) rfl (by kernel_rfl) (by kernel_rfl) (by kernel_rfl) (fun _ _ _ h => h) (Or.inr ⟨by rfl, rfl⟩) (by assumption) ?_
        simp only [Act.put, List.setIfInBounds_toArray, List.set_cons_zero, List.set_cons_succ]
        refine wpAnyH_take (i := 11) (oi := { dst := some 23, op := Go.Op.load 3 (Go.Operand.tmp 22), type := 3, pos := "ref.go:131", after := #[{ on := 10, ground := Go.Ground.data }, { on := 6, ground := Go.Ground.guard }], guard := some (6, false) }) (v := undef) rfl (by kernel_rfl) (by kernel_rfl) (by kernel_rfl) (fun _ _ _ h => h) (Or.inr ⟨by rfl, rfl⟩) (by assumption) ?_
        simp only [Act.put, List.setIfInBounds_toArray, List.set_cons_zero, List.set_cons_succ]
        refine wpAnyH_take (i := 12) (oi := { dst := some 24, op := Go.Op.binOp Go.BinOp.eql 3 (Go.Operand.tmp 23) (Go.Operand.const (Go.Value.int Go.IntKind.i64 5)) 3, type := 4, pos := "ref.go:131", after := #[{ on := 11, ground := Go.Ground.data }, { on := 6, ground := Go.Ground.guard }], guard := some (6, false) }) (v := undef) rfl (by kernel_rfl) (by kernel_rfl) (by kernel_rfl) (fun _ _ _ h => h) (Or.inr ⟨by rfl, rfl⟩) (by assumption) ?_
        simp only [Act.put, List.setIfInBounds_toArray, List.set_cons_zero, List.set_cons_succ]
        refine wpAnyH_take (i := 13) (oi := { dst := some 25, op := Go.Op.pick (Go.Operand.tmp 18) (Go.Operand.const (Go.Value.bool true)) (Go.Operand.tmp 24), type := 4, pos := "ref.go:131", after := #[{ on := 6, ground := Go.Ground.data }, { on := 12, ground := Go.Ground.data }], guard := none }) (v := ?_) rfl (by kernel_rfl) (by kernel_rfl) (by kernel_rfl) (fun _ _ _ h => h) (Or.inl ⟨by rfl, ?_⟩) (by assumption) ?_
        rotate_left
        · (intro w hSw; (try dsimp only at hSw); go_simp) <;> (with_reducible rfl)
        simp only [Act.put, List.setIfInBounds_toArray, List.set_cons_zero, List.set_cons_succ]
        refine wpAnyH_take (i := 14) (oi := { dst := some 26, op := Go.Op.move (Go.Operand.tmp 25), type := 4, pos := "ref.go:131", after := #[{ on := 13, ground := Go.Ground.data }, { on := 6, ground := Go.Ground.chain }], guard := none }) (v := ?_) rfl (by kernel_rfl) (by kernel_rfl) (by kernel_rfl) (fun _ _ _ h => h) (Or.inl ⟨by rfl, ?_⟩) (by assumption) ?_
        rotate_left
        · (intro w hSw; (try dsimp only at hSw); go_simp) <;> (with_reducible rfl)
        simp only [Act.put, List.setIfInBounds_toArray, List.set_cons_zero, List.set_cons_succ]
        refine wpAnyH_take (i := 15) (oi := { dst := some 27, op := Go.Op.move (Go.Operand.tmp 0), type := 40, pos := "ref.go:131", after := #[{ on := 14, ground := Go.Ground.guard }], guard := some (14, true) }) (v := ?_) rfl (by kernel_rfl) (by kernel_rfl) (by kernel_rfl) (fun _ _ _ h => h) (Or.inl ⟨by rfl, ?_⟩) (by assumption) ?_
        rotate_left
        · (intro w hSw; (try dsimp only at hSw); go_simp) <;> (with_reducible rfl)
        simp only [Act.put, List.setIfInBounds_toArray, List.set_cons_zero, List.set_cons_succ]
        refine wpAnyH_take (i := 16) (oi := { dst := some 28, op := Go.Op.move (Go.Operand.tmp 5), type := 3, pos := "ref.go:131", after := #[{ on := 14, ground := Go.Ground.guard }], guard := some (14, true) }) (v := ?_) rfl (by kernel_rfl) (by kernel_rfl) (by kernel_rfl) (fun _ _ _ h => h) (Or.inl ⟨by rfl, ?_⟩) (by assumption) ?_
        rotate_left
        · (intro w hSw; (try dsimp only at hSw); go_simp) <;> (with_reducible rfl)
        simp only [Act.put, List.setIfInBounds_toArray, List.set_cons_zero, List.set_cons_succ]
        refine wpAnyH_take (i := 17) (oi := { dst := some 29, op := Go.Op.indexAddr 40 (Go.Operand.tmp 27) (Go.Operand.tmp 28), type := 0, pos := "ref.go:131", after := #[{ on := 15, ground := Go.Ground.data }, { on := 16, ground := Go.Ground.data }, { on := 14, ground := Go.Ground.guard }], guard := some (14, true) }) (v := ?_) rfl (by kernel_rfl) (by kernel_rfl) (by kernel_rfl) (fun _ _ _ h => h) (Or.inl ⟨by rfl, ?_⟩) (by assumption) ?_
        rotate_left
        · (intro w hSw; (try dsimp only at hSw); go_simp) <;> (with_reducible rfl)
        simp only [Act.put, List.setIfInBounds_toArray, List.set_cons_zero, List.set_cons_succ]
        refine wpAnyH_take (i := 18) (oi := { dst := some 30, op := Go.Op.load 25 (Go.Operand.tmp 29), type := 25, pos := "ref.go:131", after := #[{ on := 17, ground := Go.Ground.data }, { on := 14, ground := Go.Ground.guard }], guard := some (14, true) }) (v := ?_) rfl (by kernel_rfl) (by kernel_rfl) (by kernel_rfl) (fun _ _ _ h => h) (Or.inl ⟨by rfl, ?_⟩) (by assumption) ?_
        rotate_left
        · (intro w hSw; (try dsimp only at hSw); go_simp) <;> (with_reducible rfl)
        simp only [Act.put, List.setIfInBounds_toArray, List.set_cons_zero, List.set_cons_succ]
        refine wpAnyH_take (i := 19) (oi := { dst := some 31, op := Go.Op.load 23 (Go.Operand.tmp 3), type := 23, pos := "ref.go:131", after := #[{ on := 14, ground := Go.Ground.guard }], guard := some (14, true) }) (v := ?_) rfl (by kernel_rfl) (by kernel_rfl) (by kernel_rfl) (fun _ _ _ h => h) (Or.inl ⟨by rfl, ?_⟩) (by assumption) ?_
        rotate_left
        · (intro w hSw; (try dsimp only at hSw); go_simp) <;> (with_reducible rfl)
        simp only [Act.put, List.setIfInBounds_toArray, List.set_cons_zero, List.set_cons_succ]
        refine wpAnyH_ready (rs := [20]) (by kernel_rfl) (by simp) ?_
        refine (AllReadyH.cons (o := { dst := some 32, op := Go.Op.call { callee := Go.Callee.value (Go.Operand.func 25), args := #[Go.Operand.tmp 30, Go.Operand.tmp 31], argTypes := #[25, 23] }, type := 4, pos := "ref.go:131", after := #[{ on := 18, ground := Go.Ground.data }, { on := 19, ground := Go.Ground.data }, { on := 14, ground := Go.Ground.chain }, { on := 14, ground := Go.Ground.guard }], guard := some (14, true) }) rfl (fun Kc hKc => ?_) AllReadyH.nil)
        go_simp
        go_at_call 25
        refine (rCovers_k x p 4 _ HKK.out).mono ?_
        rintro e w9 ⟨rfl, hG9⟩
        have gq := gp.trans (G.trans (by (repeat' (first | (with_reducible exact G.refl _) | (with_reducible refine G.drewN ?_ _) | (with_reducible refine G.drew ?_) | (with_reducible refine G.alloc ?_ _)))) hG9)
        clear gp
        have gp := gq
        clear x0 x1 x2 x3 x4 x5 x6 x7 x8
        clear z0 z1 z2 z3
        obtain ⟨x0, x1, x2, x3, x4, x5, x6, x7, x8⟩ := (FC.out i _ HP.out).later (gw gp)
        obtain ⟨z0, z1, z2, z3⟩ := B4.made rfl gp
        rw [HK4.out] at x0
        rw [← hcx.out]
        refine hKc.out _ _ (by ((try dsimp only); first | (with_reducible assumption) | ((repeat' (with_reducible apply And.intro)) <;> go_simp))) (fun hH1 => ?_)
        clear hKc Kc hH0
        refine wpAnyH_take (i := 21) (oi := { dst := some 33, op := Go.Op.pick (Go.Operand.tmp 26) (Go.Operand.tmp 32) (Go.Operand.const (Go.Value.bool false)), type := 4, pos := "ref.go:131", after := #[{ on := 14, ground := Go.Ground.data }, { on := 20, ground := Go.Ground.data }], guard := none }) (v := ?_) rfl (by kernel_rfl) (by kernel_rfl) (by kernel_rfl) (fun _ _ _ h => h) (Or.inl ⟨by rfl, ?_⟩) (by assumption) ?_
        rotate_left
        · (intro w hSw; (try dsimp only at hSw); go_simp) <;> (with_reducible rfl)
        simp only [Act.put, List.setIfInBounds_toArray, List.set_cons_zero, List.set_cons_succ]
        refine wpAnyH_done (by kernel_rfl) ?_ _
        go_wp2_with fail
        any_goals (go_ret; exact ⟨ret_int (by rw [HST.out]; have h1 := HCO.out; have h2 := hcx.out; have h3 := HK4.out; grind), gw (by (repeat' (first | (with_reducible exact G.refl _) | (with_reducible assumption) | (with_reducible refine G.drewN ?_ _) | (with_reducible refine G.drew ?_) | (with_reducible refine G.alloc ?_ _) | (with_reducible refine G.setCell ?_ (by first | (with_reducible exact Nat.le_refl _) | (simp; done) | (simp; omega) | omega) _) | (with_reducible refine G.trans ?_ (by assumption)))))⟩)
        go_roundg (l.length - (i + 1))
        case measure => have := HQ.out; omega
        case rel => exact ⟨i + 1, by go_num, rfl, by omega, Lib.hid (by rw [HST.out]; have h1 := HCO.out; have h2 := hcx.out; have h3 := HK4.out; grind), Lib.hid (by (repeat' (first | (with_reducible exact G.refl _) | (with_reducible assumption) | (with_reducible refine G.drewN ?_ _) | (with_reducible refine G.drew ?_) | (with_reducible refine G.alloc ?_ _) | (with_reducible refine G.setCell ?_ (by first | (with_reducible exact Nat.le_refl _) | (simp; done) | (simp; omega) | omega) _) | (with_reducible refine G.trans ?_ (by assumption)))))⟩
      by_cases k5 : x.k = 5
      · have HK4 := Lib.hid k5
        have HKK := Lib.hid k5.symm
        have HCO := Lib.hid (show OctS p x ↔ Cov x p from ⟨fun h => h.2, fun h => ⟨by omega, h⟩⟩)
        rw [k5] at x0
        clear k4 k5
        go_wp2_with fail
        go_region_held3 (fun w' => w'.cell? ⟨b0, of + i * 9, none⟩ = some (.int .i64 5) ∧ w'.cell? ⟨b0, of + i * 9 + 1, none⟩ = some (.int .i64 x.f.m) ∧ w'.cell? ⟨b0, of + i * 9 + 2, none⟩ = some (.int .i64 x.f.a) ∧ w'.cell? ⟨b0, of + i * 9 + 3, none⟩ = some (.int .i64 x.f.s) ∧ w'.cell? ⟨b0, of + i * 9 + 4, none⟩ = some (.int .i64 x.f.v) ∧ w'.cell? ⟨b0, of + i * 9 + 5, none⟩ = some (.int .i64 x.t.m) ∧ w'.cell? ⟨b0, of + i * 9 + 6, none⟩ = some (.int .i64 x.t.a) ∧ w'.cell? ⟨b0, of + i * 9 + 7, none⟩ = some (.int .i64 x.t.s) ∧ w'.cell? ⟨b0, of + i * 9 + 8, none⟩ = some (.int .i64 x.t.v) ∧ w'.cell? ⟨w.heap.size, 0, none⟩ = some (.int .i64 p.m) ∧ w'.cell? ⟨w.heap.size, 1, none⟩ = some (.int .i64 p.a) ∧ w'.cell? ⟨w.heap.size, 2, none⟩ = some (.int .i64 p.s) ∧ w'.cell? ⟨w.heap.size, 3, none⟩ = some (.int .i64 p.v))
          (first | (with_reducible assumption) | ((try dsimp only); (repeat' (with_reducible apply And.intro)) <;> go_simp))
          ((go_at_call 25; refine (rCovers_k x p 5 _ HKK.out).mono ?_; rintro e w9 ⟨rfl, hG9⟩; have gq := gp.trans (G.trans (by (repeat' (first | (with_reducible exact G.refl _) | (with_reducible refine G.drewN ?_ _) | (with_reducible refine G.drew ?_) | (with_reducible refine G.alloc ?_ _)))) hG9); clear gp; have gp := gq; clear x0 x1 x2 x3 x4 x5 x6 x7 x8; clear z0 z1 z2 z3; obtain ⟨x0, x1, x2, x3, x4, x5, x6, x7, x8⟩ := (FC.out i _ HP.out).later (gw gp); obtain ⟨z0, z1, z2, z3⟩ := B4.made rfl gp; rw [HK4.out] at x0; rw [← hcx.out]))

        all_goals
          go_wp2_with fail
          any_goals (go_ret; exact ⟨ret_int (by rw [HST.out]; have h1 := HCO.out; have h2 := hcx.out; have h3 := HK4.out; grind), gw (by (repeat' (first | (with_reducible exact G.refl _) | (with_reducible assumption) | (with_reducible refine G.drewN ?_ _) | (with_reducible refine G.drew ?_) | (with_reducible refine G.alloc ?_ _) | (with_reducible refine G.setCell ?_ (by first | (with_reducible exact Nat.le_refl _) | (simp; done) | (simp; omega) | omega) _) | (with_reducible refine G.trans ?_ (by assumption)))))⟩)
          go_roundg (l.length - (i + 1))
          case measure => have := HQ.out; omega
          case rel => exact ⟨i + 1, by go_num, rfl, by omega, Lib.hid (by rw [HST.out]; have h1 := HCO.out; have h2 := hcx.out; have h3 := HK4.out; grind), Lib.hid (by (repeat' (first | (with_reducible exact G.refl _) | (with_reducible assumption) | (with_reducible refine G.drewN ?_ _) | (with_reducible refine G.drew ?_) | (with_reducible refine G.alloc ?_ _) | (with_reducible refine G.setCell ?_ (by first | (with_reducible exact Nat.le_refl _) | (simp; done) | (simp; omega) | omega) _) | (with_reducible refine G.trans ?_ (by assumption)))))⟩
      · have e1 : (x.k == 4) = false := beq_false_of_ne k4
        have e2 : (x.k == 5) = false := beq_false_of_ne k5
        have HNO := Lib.hid (show ¬ OctS p x from fun h => by have := h.1; omega)
        clear k4 k5
        go_wp2_with fail
        go_big_region
        go_wp2_with fail
        go_roundg (l.length - (i + 1))
        case measure => have := HQ.out; omega
        case rel => exact ⟨i + 1, by go_num, rfl, by omega, Lib.hid (by rw [HST.out, if_neg HNO.out]), Lib.hid (by (repeat' (first | (with_reducible exact G.refl _) | (with_reducible assumption) | (with_reducible refine G.drewN ?_ _) | (with_reducible refine G.drew ?_) | (with_reducible refine G.alloc ?_ _) | (with_reducible refine G.setCell ?_ (by first | (with_reducible exact Nat.le_refl _) | (simp; done) | (simp; omega) | omega) _) | (with_reducible refine G.trans ?_ (by assumption)))))⟩
    · have hii : i = l.length := by omega
      subst hii
      have HR := Lib.hid (show R = 0 by rw [hA.out, List.drop_length]; rfl)
      go_wp2_with fail
      go_ret
      exact ⟨ret_int (by rw [HR.out]), gw gr.out⟩
end Go.Proofs.YtgepjpbdfjcaaaaDoor
