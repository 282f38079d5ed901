import Derived.Test.YtgepjpbdfjcaaaaDoorNe0
/-! Spanners: nests: a case of a round -/
namespace Go.Proofs.YtgepjpbdfjcaaaaDoor
open Go.RowKit
attribute [local go_sem] World.cell?_alloc_some

set_option maxRecDepth 100000 in
set_option maxHeartbeats 12800000 in
theorem nests_r4f (K K1 : Act → World → Prop) (Rx : Ending → World → Prop) (u1 u2 u4 u5 u6 u9 u10 u11 u12 u13 u14 u15 u16 u17 u18 u19 u20 u21 u22 u23 u24 u25 u26 u27 u28 u29 u30 u31 u32 u33 u34 u35 u36 u37 u38 u39 u40 u41 u42 u43 u44 u45 u46 u47 u48 u49 u50 u51 u52 u53 u54 u55 u56 u57 u58 u59 u60 u61 u62 u63 u64 u65 u66 u67 u68 u69 u70 u71 u72 u73 u74 u75 u76 u77 u78 u79 u80 u81 u82 u83 u84 u85 u86 u87 u88 u89 u90 u91 u92 u93 u94 u95 u96 u97 u98 u99 u100 u101 u102 u103 u104 u105 u106 u107 u108 u109 u110 u111 u112 u113 u114 u115 u116 u117 u118 u119 u120 u121 u122 u123 u124 u125 u126 u127 u128 u129 u130 u131 u132 : Value) (l : List Sp) (c b0 of i D : Nat) (p : Pl) (w wr : World) (x : Sp)
    (hl : l.length ≤ 12) (fc : ∀ (i : Nat) (x : Sp), l[i]? = some x → S9 w b0 (of + i * 9) x) (hp : l[i]? = some x) (hck : l.Pairwise (fun y x => ¬ Cnf y x)) (gp : G (w.alloc (.cells #[.int .i64 p.m, .int .i64 p.a, .int .i64 p.s, .int .i64 p.v] 23)) wr) (hDi : D ≤ i) (hk : x.k = 4) (hcv : decide (Cov x p) = false)
    (hnext : ∀ (e4 e9 e10 e11 e12 e29 e30 e31 e32 e33 e34 e35 e36 e37 e38 e39 e40 e41 e42 e43 e44 e45 e46 e47 e48 e49 e50 e51 e52 e53 e54 e55 e56 e57 e58 e59 e60 e61 e62 e63 e64 e65 e66 e67 e68 e69 e70 e71 e72 e73 e74 e75 e76 e77 e78 e79 e80 e81 e82 e83 e84 e85 e86 e87 e88 e89 e90 e91 e92 e93 e94 e95 e96 e97 e98 e99 e100 e101 e102 e103 e104 e105 e106 e107 e108 e109 e110 e111 e112 e113 e114 e115 e116 e117 e118 e119 e120 e121 e122 e123 e124 e125 e126 e127 e128 e129 e130 : Value) (w'' : World), G (w.alloc (.cells #[.int .i64 p.m, .int .i64 p.a, .int .i64 p.s, .int .i64 p.v] 23)) w'' → K { tmps := #[.slice (some ⟨b0, of, none⟩) l.length c, u1, u2, .pointer (some ⟨w.heap.size, 0, none⟩), e4, u5, u6, .int .i64 D, .int .i64 ((i : Int) + 1), e9, e10, e11, e12, u13, u14, u15, u16, u17, u18, u19, u20, u21, u22, u23, u24, u25, u26, u27, u28, e29, e30, e31, e32, e33, e34, e35, e36, e37, e38, e39, e40, e41, e42, e43, e44, e45, e46, e47, e48, e49, e50, e51, e52, e53, e54, e55, e56, e57, e58, e59, e60, e61, e62, e63, e64, e65, e66, e67, e68, e69, e70, e71, e72, e73, e74, e75, e76, e77, e78, e79, e80, e81, e82, e83, e84, e85, e86, e87, e88, e89, e90, e91, e92, e93, e94, e95, e96, e97, e98, e99, e100, e101, e102, e103, e104, e105, e106, e107, e108, e109, e110, e111, e112, e113, e114, e115, e116, e117, e118, e119, e120, e121, e122, e123, e124, e125, e126, e127, e128, e129, e130, u131, u132], defers := [] } w'') :
    Code.wp Tryd.prog ((Tryd.f7.body.bind firstLoop).getD .skip) (Exit.then K (Exit.inBlock 0 (Exit.then K1 (bodyPost Tryd.prog Tryd.f7 Rx)))) { tmps := #[.slice (some ⟨b0, of, none⟩) l.length c, u1, u2, .pointer (some ⟨w.heap.size, 0, none⟩), u4, u5, u6, .int .i64 D, .int .i64 i, u9, u10, u11, u12, u13, u14, u15, u16, u17, u18, u19, u20, u21, u22, u23, u24, u25, u26, u27, u28, u29, u30, u31, u32, u33, u34, u35, u36, u37, u38, u39, u40, u41, u42, u43, u44, u45, u46, u47, u48, u49, u50, u51, u52, u53, u54, u55, u56, u57, u58, u59, u60, u61, u62, u63, u64, u65, u66, u67, u68, u69, u70, u71, u72, u73, u74, u75, u76, u77, u78, u79, u80, u81, u82, u83, u84, u85, u86, u87, u88, u89, u90, u91, u92, u93, u94, u95, u96, u97, u98, u99, u100, u101, u102, u103, u104, u105, u106, u107, u108, u109, u110, u111, u112, u113, u114, u115, u116, u117, u118, u119, u120, u121, u122, u123, u124, u125, u126, u127, u128, u129, u130, u131, u132], defers := [] } wr := by
  have HQX := Lib.hid hnext
  have hin : i < l.length := (List.getElem?_eq_some_iff.1 hp).1
  have hi : i ≤ l.length := by omega
  have m1 : (l.length : Int) ≤ 12 := by omega
  have FC := Lib.hid fc
  have HP := Lib.hid hp
  have HCK := Lib.hid (And.intro True.intro hck)
  have gw : ∀ {W : World}, G (w.alloc (.cells #[.int .i64 p.m, .int .i64 p.a, .int .i64 p.s, .int .i64 p.v] 23)) W → G w W := fun g => G.trans (G.alloc (G.refl w) _) g
  obtain ⟨x0, x1, x2, x3, x4, x5, x6, x7, x8⟩ := (fc i _ hp).later (gw gp)
  obtain ⟨z0, z1, z2, z3⟩ := B4.made rfl gp
  have b1 : (0 : Int) ≤ (i : Int) := by omega
  have b2 : (i : Int) < (l.length : Int) := by omega
  have q1 := IntWalk.i64_in ((i : Int) + 1) (by omega)
  have q2 := IntWalk.i64_in ((D : Int) + 1) (by omega)
  have HIN := Lib.hid hin
  clear fc hp hck hnext hl
  have HK4 := Lib.hid hk
  have HKK := Lib.hid hk.symm
  have HCX := Lib.hid hcv
  rw [hk] at x0
  clear hk hcv
  conv => arg 2; whnf
  go_wp2_with fail
  refine wp_region_held_drew (S := fun w' => w'.cell? ⟨b0, of + i * 9, none⟩ = some (.int .i64 4) ∧ w'.cell? ⟨b0, of + i * 9 + 1, none⟩ = some (.int .i64 x.f.m) ∧ w'.cell? ⟨b0, of + i * 9 + 2, none⟩ = some (.int .i64 x.f.a) ∧ w'.cell? ⟨b0, of + i * 9 + 3, none⟩ = some (.int .i64 x.f.s) ∧ w'.cell? ⟨b0, of + i * 9 + 4, none⟩ = some (.int .i64 x.f.v) ∧ w'.cell? ⟨b0, of + i * 9 + 5, none⟩ = some (.int .i64 x.t.m) ∧ w'.cell? ⟨b0, of + i * 9 + 6, none⟩ = some (.int .i64 x.t.a) ∧ w'.cell? ⟨b0, of + i * 9 + 7, none⟩ = some (.int .i64 x.t.s) ∧ w'.cell? ⟨b0, of + i * 9 + 8, none⟩ = some (.int .i64 x.t.v) ∧ w'.cell? ⟨w.heap.size, 0, none⟩ = some (.int .i64 p.m) ∧ w'.cell? ⟨w.heap.size, 1, none⟩ = some (.int .i64 p.a) ∧ w'.cell? ⟨w.heap.size, 2, none⟩ = some (.int .i64 p.s) ∧ w'.cell? ⟨w.heap.size, 3, none⟩ = some (.int .i64 p.v)) (by kernel_rfl) (by ((try dsimp only); first | (with_reducible assumption) | ((repeat' (with_reducible apply And.intro)) <;> go_simp))) (fun hH0 => ?_)
  refine wpAnyH_take (i := 0) (oi := { dst := some 35, op := Go.Op.move (Go.Operand.tmp 0), type := 40, pos := "law.go:87", after := #[], guard := none }) (v := ?_) rfl (by kernel_rfl) (by kernel_rfl) (by kernel_rfl) (fun _ _ _ h => h) (Or.inl ⟨by rfl, ?_⟩) (by assumption) ?_
  rotate_left
  · (intro w hSw; (try dsimp only at hSw); go_simp) <;> (with_reducible rfl)
  simp only [Act.put, List.setIfInBounds_toArray, List.set_cons_zero, List.set_cons_succ]
  refine wpAnyH_take (i := 1) (oi := { dst := some 36, op := Go.Op.move (Go.Operand.tmp 8), type := 3, pos := "law.go:87", after := #[], guard := none }) (v := ?_) rfl (by kernel_rfl) (by kernel_rfl) (by kernel_rfl) (fun _ _ _ h => h) (Or.inl ⟨by rfl, ?_⟩) (by assumption) ?_
  rotate_left
  · (intro w hSw; (try dsimp only at hSw); go_simp) <;> (with_reducible rfl)
  simp only [Act.put, List.setIfInBounds_toArray, List.set_cons_zero, List.set_cons_succ]
  refine wpAnyH_take (i := 2) (oi := { dst := some 37, op := Go.Op.indexAddr 40 (Go.Operand.tmp 35) (Go.Operand.tmp 36), type := 0, pos := "law.go:87", after := #[{ on := 0, ground := Go.Ground.data }, { on := 1, ground := Go.Ground.data }], guard := none }) (v := ?_) rfl (by kernel_rfl) (by kernel_rfl) (by kernel_rfl) (fun _ _ _ h => h) (Or.inl ⟨by rfl, ?_⟩) (by assumption) ?_
  rotate_left
  · (intro w hSw; (try dsimp only at hSw); go_simp) <;> (with_reducible rfl)
  simp only [Act.put, List.setIfInBounds_toArray, List.set_cons_zero, List.set_cons_succ]
  refine wpAnyH_take (i := 3) (oi := { dst := some 38, op := Go.Op.fieldAddr 25 (Go.Operand.tmp 37) 0, type := 0, pos := "law.go:87", after := #[{ on := 2, ground := Go.Ground.data }], guard := none }) (v := ?_) rfl (by kernel_rfl) (by kernel_rfl) (by kernel_rfl) (fun _ _ _ h => h) (Or.inl ⟨by rfl, ?_⟩) (by assumption) ?_
  rotate_left
  · (intro w hSw; (try dsimp only at hSw); go_simp) <;> (with_reducible rfl)
  simp only [Act.put, List.setIfInBounds_toArray, List.set_cons_zero, List.set_cons_succ]
  refine wpAnyH_take (i := 4) (oi := { dst := some 39, op := Go.Op.load 3 (Go.Operand.tmp 38), type := 3, pos := "law.go:87", after := #[{ on := 3, ground := Go.Ground.data }], guard := none }) (v := ?_) rfl (by kernel_rfl) (by kernel_rfl) (by kernel_rfl) (fun _ _ _ h => h) (Or.inl ⟨by rfl, ?_⟩) (by assumption) ?_
  rotate_left
  · (intro w hSw; (try dsimp only at hSw); go_simp) <;> (with_reducible rfl)
  simp only [Act.put, List.setIfInBounds_toArray, List.set_cons_zero, List.set_cons_succ]
  refine wpAnyH_take (i := 5) (oi := { dst := some 40, op := Go.Op.binOp Go.BinOp.eql 3 (Go.Operand.tmp 39) (Go.Operand.const (Go.Value.int Go.IntKind.i64 4)) 3, type := 4, pos := "law.go:87", after := #[{ on := 4, ground := Go.Ground.data }], guard := none }) (v := ?_) rfl (by kernel_rfl) (by kernel_rfl) (by kernel_rfl) (fun _ _ _ h => h) (Or.inl ⟨by rfl, ?_⟩) (by assumption) ?_
  rotate_left
  · (intro w hSw; (try dsimp only at hSw); go_simp) <;> (with_reducible rfl)
  simp only [Act.put, List.setIfInBounds_toArray, List.set_cons_zero, List.set_cons_succ]
  refine wpAnyH_take (i := 6) (oi := { dst := some 41, op := Go.Op.move (Go.Operand.tmp 40), type := 4, pos := "law.go:87", after := #[{ on := 5, ground := Go.Ground.data }], guard := none }) (v := ?_) rfl (by kernel_rfl) (by kernel_rfl) (by kernel_rfl) (fun _ _ _ h => h) (Or.inl ⟨by rfl, ?_⟩) (by assumption) ?_
  rotate_left
  · (intro w hSw; (try dsimp only at hSw); go_simp) <;> (with_reducible rfl)
  simp only [Act.put, List.setIfInBounds_toArray, List.set_cons_zero, List.set_cons_succ]
  refine wpAnyH_take (i := 7) (oi := { dst := some 42, op := Go.Op.move (Go.Operand.tmp 0), type := 40, pos := "law.go:87", after := #[{ on := 6, ground := Go.Ground.guard }], guard := some (6, false) }) (v := undef) rfl (by kernel_rfl) (by kernel_rfl) (by kernel_rfl) (fun _ _ _ h => h) (Or.inr ⟨by rfl, rfl⟩) (by assumption) ?_
  simp only [Act.put, List.setIfInBounds_toArray, List.set_cons_zero, List.set_cons_succ]
  refine wpAnyH_take (i := 8) (oi := { dst := some 43, op := Go.Op.move (Go.Operand.tmp 8), type := 3, pos := "law.go:87", after := #[{ on := 6, ground := Go.Ground.guard }], guard := some (6, false) }) (v := undef) rfl (by kernel_rfl) (by kernel_rfl) (by kernel_rfl) (fun _ _ _ h => h) (Or.inr ⟨by rfl, rfl⟩) (by assumption) ?_
  simp only [Act.put, List.setIfInBounds_toArray, List.set_cons_zero, List.set_cons_succ]
  refine wpAnyH_take (i := 9) (oi := { dst := some 44, op := Go.Op.indexAddr 40 (Go.Operand.tmp 42) (Go.Operand.tmp 43), type := 0, pos := "law.go:87", after := #[{ on := 7, ground := Go.Ground.data }, { on := 8, ground := Go.Ground.data }, { on := 6, ground := Go.Ground.guard }], guard := some (6, false) }) (v := undef) rfl (by kernel_rfl) (by kernel_rfl) (by kernel_rfl) (fun _ _ _ h => h) (Or.inr ⟨by rfl, rfl⟩) (by assumption) ?_
  simp only [Act.put, List.setIfInBounds_toArray, List.set_cons_zero, List.set_cons_succ]
  refine wpAnyH_take (i := 10) (oi := { dst := some 45, op := Go.Op.fieldAddr 25 (Go.Operand.tmp 44) 0, type := 0, pos := "law.go:87", after := #[{ on := 9, ground := Go.Ground.data }, { on := 6, ground := Go.Ground.guard }], guard := some (6, false) }) (v := undef) rfl (by kernel_rfl) (by kernel_rfl) (by kernel_rfl) (fun _ _ _ h => h) (Or.inr ⟨by rfl, rfl⟩) (by assumption) ?_
  simp only [Act.put, List.setIfInBounds_toArray, List.set_cons_zero, List.set_cons_succ]
  refine wpAnyH_take (i := 11) (oi := { dst := some 46, op := Go.Op.load 3 (Go.Operand.tmp 45), type := 3, pos := "law.go:87", after := #[{ on := 10, ground := Go.Ground.data }, { on := 6, ground := Go.Ground.guard }], guard := some (6, false) }) (v := undef) rfl (by kernel_rfl) (by kernel_rfl) (by kernel_rfl) (fun _ _ _ h => h) (Or.inr ⟨by rfl, rfl⟩) (by assumption) ?_
  simp only [Act.put, List.setIfInBounds_toArray, List.set_cons_zero, List.set_cons_succ]
  refine wpAnyH_take (i := 12) (oi := { dst := some 47, op := Go.Op.binOp Go.BinOp.eql 3 (Go.Operand.tmp 46) (Go.Operand.const (Go.Value.int Go.IntKind.i64 5)) 3, type := 4, pos := "law.go:87", after := #[{ on := 11, ground := Go.Ground.data }, { on := 6, ground := Go.Ground.guard }], guard := some (6, false) }) (v := undef) rfl (by kernel_rfl) (by kernel_rfl) (by kernel_rfl) (fun _ _ _ h => h) (Or.inr ⟨by rfl, rfl⟩) (by assumption) ?_
  simp only [Act.put, List.setIfInBounds_toArray, List.set_cons_zero, List.set_cons_succ]
  refine wpAnyH_take (i := 13) (oi := { dst := some 48, op := Go.Op.pick (Go.Operand.tmp 41) (Go.Operand.const (Go.Value.bool true)) (Go.Operand.tmp 47), type := 4, pos := "law.go:87", after := #[{ on := 6, ground := Go.Ground.data }, { on := 12, ground := Go.Ground.data }], guard := none }) (v := ?_) rfl (by kernel_rfl) (by kernel_rfl) (by kernel_rfl) (fun _ _ _ h => h) (Or.inl ⟨by rfl, ?_⟩) (by assumption) ?_
  rotate_left
  · (intro w hSw; (try dsimp only at hSw); go_simp) <;> (with_reducible rfl)
  simp only [Act.put, List.setIfInBounds_toArray, List.set_cons_zero, List.set_cons_succ]
  refine wpAnyH_take (i := 14) (oi := { dst := some 49, op := Go.Op.move (Go.Operand.tmp 48), type := 4, pos := "law.go:87", after := #[{ on := 13, ground := Go.Ground.data }, { on := 6, ground := Go.Ground.chain }], guard := none }) (v := ?_) rfl (by kernel_rfl) (by kernel_rfl) (by kernel_rfl) (fun _ _ _ h => h) (Or.inl ⟨by rfl, ?_⟩) (by assumption) ?_
  rotate_left
  · (intro w hSw; (try dsimp only at hSw); go_simp) <;> (with_reducible rfl)
  simp only [Act.put, List.setIfInBounds_toArray, List.set_cons_zero, List.set_cons_succ]
  refine wpAnyH_take (i := 15) (oi := { dst := some 50, op := Go.Op.move (Go.Operand.tmp 0), type := 40, pos := "law.go:87", after := #[{ on := 14, ground := Go.Ground.guard }], guard := some (14, true) }) (v := ?_) rfl (by kernel_rfl) (by kernel_rfl) (by kernel_rfl) (fun _ _ _ h => h) (Or.inl ⟨by rfl, ?_⟩) (by assumption) ?_
  rotate_left
  · (intro w hSw; (try dsimp only at hSw); go_simp) <;> (with_reducible rfl)
  simp only [Act.put, List.setIfInBounds_toArray, List.set_cons_zero, List.set_cons_succ]
  refine wpAnyH_take (i := 16) (oi := { dst := some 51, op := Go.Op.move (Go.Operand.tmp 8), type := 3, pos := "law.go:87", after := #[{ on := 14, ground := Go.Ground.guard }], guard := some (14, true) }) (v := ?_) rfl (by kernel_rfl) (by kernel_rfl) (by kernel_rfl) (fun _ _ _ h => h) (Or.inl ⟨by rfl, ?_⟩) (by assumption) ?_
  rotate_left
  · (intro w hSw; (try dsimp only at hSw); go_simp) <;> (with_reducible rfl)
  simp only [Act.put, List.setIfInBounds_toArray, List.set_cons_zero, List.set_cons_succ]
  refine wpAnyH_take (i := 17) (oi := { dst := some 52, op := Go.Op.indexAddr 40 (Go.Operand.tmp 50) (Go.Operand.tmp 51), type := 0, pos := "law.go:87", after := #[{ on := 15, ground := Go.Ground.data }, { on := 16, ground := Go.Ground.data }, { on := 14, ground := Go.Ground.guard }], guard := some (14, true) }) (v := ?_) rfl (by kernel_rfl) (by kernel_rfl) (by kernel_rfl) (fun _ _ _ h => h) (Or.inl ⟨by rfl, ?_⟩) (by assumption) ?_
  rotate_left
  · (intro w hSw; (try dsimp only at hSw); go_simp) <;> (with_reducible rfl)
  simp only [Act.put, List.setIfInBounds_toArray, List.set_cons_zero, List.set_cons_succ]
  refine wpAnyH_take (i := 18) (oi := { dst := some 53, op := Go.Op.load 25 (Go.Operand.tmp 52), type := 25, pos := "law.go:87", after := #[{ on := 17, ground := Go.Ground.data }, { on := 14, ground := Go.Ground.guard }], guard := some (14, true) }) (v := ?_) rfl (by kernel_rfl) (by kernel_rfl) (by kernel_rfl) (fun _ _ _ h => h) (Or.inl ⟨by rfl, ?_⟩) (by assumption) ?_
  rotate_left
  · (intro w hSw; (try dsimp only at hSw); go_simp) <;> (with_reducible rfl)
  simp only [Act.put, List.setIfInBounds_toArray, List.set_cons_zero, List.set_cons_succ]
  refine wpAnyH_take (i := 19) (oi := { dst := some 54, op := Go.Op.load 23 (Go.Operand.tmp 3), type := 23, pos := "law.go:87", after := #[{ on := 14, ground := Go.Ground.guard }], guard := some (14, true) }) (v := ?_) rfl (by kernel_rfl) (by kernel_rfl) (by kernel_rfl) (fun _ _ _ h => h) (Or.inl ⟨by rfl, ?_⟩) (by assumption) ?_
  rotate_left
  · (intro w hSw; (try dsimp only at hSw); go_simp) <;> (with_reducible rfl)
  simp only [Act.put, List.setIfInBounds_toArray, List.set_cons_zero, List.set_cons_succ]
  refine wpAnyH_ready (rs := [20]) (by kernel_rfl) (by simp) ?_
  refine (AllReadyH.cons (o := { dst := some 55, op := Go.Op.call { callee := Go.Callee.value (Go.Operand.func 25), args := #[Go.Operand.tmp 53, Go.Operand.tmp 54], argTypes := #[25, 23] }, type := 4, pos := "law.go:87", after := #[{ on := 18, ground := Go.Ground.data }, { on := 19, ground := Go.Ground.data }, { on := 14, ground := Go.Ground.chain }, { on := 14, ground := Go.Ground.guard }], guard := some (14, true) }) rfl (fun Kc hKc => ?_) AllReadyH.nil)
  go_simp
  go_at_call 25
  refine (rCovers_k x p 4 _ HKK.out).mono ?_
  rintro e w9 ⟨rfl, hG9⟩
  have gq := gp.trans (G.trans (by (repeat' (first | (with_reducible exact G.refl _) | (with_reducible refine G.drewN ?_ _) | (with_reducible refine G.drew ?_) | (with_reducible refine G.alloc ?_ _)))) hG9)
  clear gp
  have gp := gq
  clear x0 x1 x2 x3 x4 x5 x6 x7 x8
  clear z0 z1 z2 z3
  obtain ⟨x0, x1, x2, x3, x4, x5, x6, x7, x8⟩ := (FC.out i _ HP.out).later (gw gp)
  obtain ⟨z0, z1, z2, z3⟩ := B4.made rfl gp
  rw [HK4.out] at x0
  rw [HCX.out]
  refine hKc.out _ _ (by ((try dsimp only); first | (with_reducible assumption) | ((repeat' (with_reducible apply And.intro)) <;> go_simp))) (fun hH1 => ?_)
  clear hKc Kc hH0
  refine wpAnyH_take (i := 21) (oi := { dst := some 56, op := Go.Op.pick (Go.Operand.tmp 49) (Go.Operand.tmp 55) (Go.Operand.const (Go.Value.bool false)), type := 4, pos := "law.go:87", after := #[{ on := 14, ground := Go.Ground.data }, { on := 20, ground := Go.Ground.data }], guard := none }) (v := ?_) rfl (by kernel_rfl) (by kernel_rfl) (by kernel_rfl) (fun _ _ _ h => h) (Or.inl ⟨by rfl, ?_⟩) (by assumption) ?_
  rotate_left
  · (intro w hSw; (try dsimp only at hSw); go_simp) <;> (with_reducible rfl)
  simp only [Act.put, List.setIfInBounds_toArray, List.set_cons_zero, List.set_cons_succ]
  refine wpAnyH_done (by kernel_rfl) ?_ _
  go_wp2_with fail
  all_goals
    go_loopg [9] i (fun q2 k2 wr2 => ∃ j : Nat, k2 = .int .i64 j ∧ q2 = i - j ∧ j ≤ i ∧ Hid (G (w.alloc (.cells #[.int .i64 p.m, .int .i64 p.a, .int .i64 p.s, .int .i64 p.v] 23)) wr2))
    case atStart => exact ⟨0, rfl, rfl, by omega, Lib.hid (by (repeat' (first | (with_reducible exact G.refl _) | (with_reducible assumption) | (with_reducible refine G.drewN ?_ _) | (with_reducible refine G.drew ?_) | (with_reducible refine G.alloc ?_ _) | (with_reducible refine G.setCell ?_ (by first | (with_reducible exact Nat.le_refl _) | (simp; done) | (simp; omega) | omega) _) | (with_reducible refine G.trans ?_ (by assumption)))))⟩
    case round =>
      obtain ⟨j, rfl, hq2, hj, gr2⟩ := hrel
      have HQ2 := Lib.hid hq2
      clear hq2
      by_cases hjn : j < i
      · obtain ⟨y, hy⟩ : ∃ z, l[j]? = some z := ⟨l[j]'(by omega), List.getElem?_eq_getElem (by omega)⟩
        clear x0 x1 x2 x3 x4 x5 x6 x7 x8
        clear z0 z1 z2 z3
        clear gp
        have gp := gr2.out
        obtain ⟨x0, x1, x2, x3, x4, x5, x6, x7, x8⟩ := (FC.out i _ HP.out).later (gw gp)
        obtain ⟨y0, y1, y2, y3, y4, y5, y6, y7, y8⟩ := (FC.out j _ hy).later (gw gp)
        obtain ⟨z0, z1, z2, z3⟩ := B4.made rfl gp
        have HJ := Lib.hid hjn
        have hno := pair_at HCK.out.2 hjn HP.out hy
        obtain ⟨cy, hcy⟩ : ∃ z : Bool, Hid (z = decide (Cov y p)) := ⟨_, rfl⟩
        obtain ⟨wx, hwx⟩ : ∃ z : Bool, Hid (z = decide (Wi x y)) := ⟨_, rfl⟩
        obtain ⟨wy, hwy⟩ : ∃ z : Bool, Hid (z = decide (Wi y x)) := ⟨_, rfl⟩
        obtain ⟨s1, hs1⟩ : ∃ z : Int, Hid (z = cmP x.f p) := ⟨_, rfl⟩
        obtain ⟨s2, hs2⟩ : ∃ z : Int, Hid (z = cmP p x.t) := ⟨_, rfl⟩
        obtain ⟨s3, hs3⟩ : ∃ z : Int, Hid (z = cmP y.f p) := ⟨_, rfl⟩
        obtain ⟨s4, hs4⟩ : ∃ z : Int, Hid (z = cmP p y.t) := ⟨_, rfl⟩
        have HNE := Lib.hid (show ∀ cx' : Bool, cx' = decide (Cov x p) → (x.k != 1) = false → (y.k != 1) = false → cx' = true → cy = true → s1 < 0 → s2 < 0 → s3 < 0 → s4 < 0 → wx = false → wy = false → False from fun cx' e0 e1 e2 e3 e4 e5 e6 e7 e8 e9 e10 => by
          rw [e0] at e3
          rw [hcy.out] at e4
          rw [hwx.out] at e9
          rw [hwy.out] at e10
          rw [hs1.out] at e5
          rw [hs2.out] at e6
          rw [hs3.out] at e7
          rw [hs4.out] at e8
          exact nest_ok (by simpa using e1) (by simpa using e2) (of_decide_eq_true e3) (of_decide_eq_true e4) hno e5 e6 e7 e8 (of_decide_eq_false e9) (of_decide_eq_false e10))
        have HY := Lib.hid hy
        have c1 : (0 : Int) ≤ (j : Int) := by omega
        have c2 : (j : Int) < (i : Int) := by omega
        have c3 : (j : Int) < (l.length : Int) := by omega
        have q3 := IntWalk.i64_in ((j : Int) + 1) (by omega)
        clear hy hno
        obtain ⟨kx, hkx⟩ : ∃ z : Int, Hid (z = x.k) := ⟨_, rfl⟩
        obtain ⟨ky, hky⟩ : ∃ z : Int, Hid (z = y.k) := ⟨_, rfl⟩
        rw [← hkx.out] at x0
        rw [← hky.out] at y0
        go_wp2_with fail
        go_big_region
        · by_cases hk1 : kx = 1 ∧ ky = 1
          rotate_left
          · have HK1 := Lib.hid hk1
            clear hk1
            go_wp2_with fail
            all_goals (first | (exfalso; have hz := HK1.out; omega) | (go_roundg (i - (j + 1)); (case measure => have := HQ2.out; have := HJ.out; omega); (case rel => exact ⟨j + 1, by go_num, rfl, by have := HJ.out; omega, Lib.hid (by (repeat' (first | (with_reducible exact G.refl _) | (with_reducible assumption) | (with_reducible refine G.drewN ?_ _) | (with_reducible refine G.drew ?_) | (with_reducible refine G.alloc ?_ _) | (with_reducible refine G.setCell ?_ (by first | (with_reducible exact Nat.le_refl _) | (simp; done) | (simp; omega) | omega) _) | (with_reducible refine G.trans ?_ (by assumption)))))⟩)))
          have HXE := Lib.hid (show (⟨1, x.f, x.t⟩ : Sp) = x by rw [← hk1.1, hkx.out])
          have HYE := Lib.hid (show (⟨1, y.f, y.t⟩ : Sp) = y by rw [← hk1.2, hky.out])
          obtain ⟨rfl, rfl⟩ := hk1
          have gb : G ((wr.alloc (.cells #[.int .i64 1, .int .i64 x.f.m, .int .i64 x.f.a, .int .i64 x.f.s, .int .i64 x.f.v, .int .i64 x.t.m, .int .i64 x.t.a, .int .i64 x.t.s, .int .i64 x.t.v] 25)).alloc (.cells #[.int .i64 1, .int .i64 y.f.m, .int .i64 y.f.a, .int .i64 y.f.s, .int .i64 y.f.v, .int .i64 y.t.m, .int .i64 y.t.a, .int .i64 y.t.s, .int .i64 y.t.v] 25)) ((wr.alloc (.cells #[.int .i64 1, .int .i64 x.f.m, .int .i64 x.f.a, .int .i64 x.f.s, .int .i64 x.f.v, .int .i64 x.t.m, .int .i64 x.t.a, .int .i64 x.t.s, .int .i64 x.t.v] 25)).alloc (.cells #[.int .i64 1, .int .i64 y.f.m, .int .i64 y.f.a, .int .i64 y.f.s, .int .i64 y.f.v, .int .i64 y.t.m, .int .i64 y.t.a, .int .i64 y.t.s, .int .i64 y.t.v] 25)) := G.refl _
          go_wp2_with fail
          try (any_goals (go_roundg (i - (j + 1)); (case measure => have := HQ2.out; have := HJ.out; omega); (case rel => exact ⟨j + 1, by go_num, rfl, by have := HJ.out; omega, Lib.hid (by (repeat' (first | (with_reducible exact G.refl _) | (with_reducible assumption) | (with_reducible refine G.drewN ?_ _) | (with_reducible refine G.drew ?_) | (with_reducible refine G.alloc ?_ _) | (with_reducible refine G.setCell ?_ (by first | (with_reducible exact Nat.le_refl _) | (simp; done) | (simp; omega) | omega) _) | (with_reducible refine G.trans ?_ (by assumption)))))⟩)))
          obtain ⟨cq, hcq⟩ : ∃ z : Bool, Hid (z = decide (Cov x p)) := ⟨_, rfl⟩
          refine (rCovers_any ⟨1, x.f, x.t⟩ p _).mono ?_
          rintro e w9 ⟨rfl, hG9⟩
          have gq := gb.trans (G.trans (by (repeat' (first | (with_reducible exact G.refl _) | (with_reducible refine G.drewN ?_ _) | (with_reducible refine G.drew ?_) | (with_reducible refine G.alloc ?_ _)))) hG9)
          clear gb
          have gb := gq
          clear gq
          clear x0 x1 x2 x3 x4 x5 x6 x7 x8
          clear y0 y1 y2 y3 y4 y5 y6 y7 y8
          clear z0 z1 z2 z3
          obtain ⟨⟨x0, x1, x2, x3, x4, x5, x6, x7, x8⟩, ⟨y0, y1, y2, y3, y4, y5, y6, y7, y8⟩⟩ := B9.made2 (x := ⟨1, x.f, x.t⟩) (y := ⟨1, y.f, y.t⟩) rfl rfl gb
          dsimp only at x0 x1 x2 x3 x4 x5 x6 x7 x8 y0 y1 y2 y3 y4 y5 y6 y7 y8
          obtain ⟨z0, z1, z2, z3⟩ := B4.made rfl (gp.trans (G.trans (by (repeat' (first | (with_reducible exact G.refl _) | (with_reducible refine G.drewN ?_ _) | (with_reducible refine G.drew ?_) | (with_reducible refine G.alloc ?_ _)))) gb))
          rw [HXE.out, ← hcq.out]
          go_wp2_with fail
          try (any_goals (go_roundg (i - (j + 1)); (case measure => have := HQ2.out; have := HJ.out; omega); (case rel => exact ⟨j + 1, by go_num, rfl, by have := HJ.out; omega, Lib.hid (by (repeat' (first | (with_reducible exact G.refl _) | (with_reducible assumption) | (with_reducible refine G.drewN ?_ _) | (with_reducible refine G.drew ?_) | (with_reducible refine G.alloc ?_ _) | (with_reducible refine G.setCell ?_ (by first | (with_reducible exact Nat.le_refl _) | (simp; done) | (simp; omega) | omega) _) | (with_reducible refine G.trans ?_ (by assumption)))))⟩)))
          refine (rCovers_any ⟨1, y.f, y.t⟩ p _).mono ?_
          rintro e w9 ⟨rfl, hG9⟩
          have gq := gb.trans (G.trans (by (repeat' (first | (with_reducible exact G.refl _) | (with_reducible refine G.drewN ?_ _) | (with_reducible refine G.drew ?_) | (with_reducible refine G.alloc ?_ _)))) hG9)
          clear gb
          have gb := gq
          clear gq
          clear x0 x1 x2 x3 x4 x5 x6 x7 x8
          clear y0 y1 y2 y3 y4 y5 y6 y7 y8
          clear z0 z1 z2 z3
          obtain ⟨⟨x0, x1, x2, x3, x4, x5, x6, x7, x8⟩, ⟨y0, y1, y2, y3, y4, y5, y6, y7, y8⟩⟩ := B9.made2 (x := ⟨1, x.f, x.t⟩) (y := ⟨1, y.f, y.t⟩) rfl rfl gb
          dsimp only at x0 x1 x2 x3 x4 x5 x6 x7 x8 y0 y1 y2 y3 y4 y5 y6 y7 y8
          obtain ⟨z0, z1, z2, z3⟩ := B4.made rfl (gp.trans (G.trans (by (repeat' (first | (with_reducible exact G.refl _) | (with_reducible refine G.drewN ?_ _) | (with_reducible refine G.drew ?_) | (with_reducible refine G.alloc ?_ _)))) gb))
          rw [HYE.out, ← hcy.out]
          go_wp2_with fail
          try (any_goals (go_roundg (i - (j + 1)); (case measure => have := HQ2.out; have := HJ.out; omega); (case rel => exact ⟨j + 1, by go_num, rfl, by have := HJ.out; omega, Lib.hid (by (repeat' (first | (with_reducible exact G.refl _) | (with_reducible assumption) | (with_reducible refine G.drewN ?_ _) | (with_reducible refine G.drew ?_) | (with_reducible refine G.alloc ?_ _) | (with_reducible refine G.setCell ?_ (by first | (with_reducible exact Nat.le_refl _) | (simp; done) | (simp; omega) | omega) _) | (with_reducible refine G.trans ?_ (by assumption)))))⟩)))
          refine (rCompare_any x.f p _).mono ?_
          rintro e w9 ⟨rfl, hG9⟩
          have gq := gb.trans (G.trans (by (repeat' (first | (with_reducible exact G.refl _) | (with_reducible refine G.drewN ?_ _) | (with_reducible refine G.drew ?_) | (with_reducible refine G.alloc ?_ _)))) hG9)
          clear gb
          have gb := gq
          clear gq
          clear x0 x1 x2 x3 x4 x5 x6 x7 x8
          clear y0 y1 y2 y3 y4 y5 y6 y7 y8
          clear z0 z1 z2 z3
          obtain ⟨⟨x0, x1, x2, x3, x4, x5, x6, x7, x8⟩, ⟨y0, y1, y2, y3, y4, y5, y6, y7, y8⟩⟩ := B9.made2 (x := ⟨1, x.f, x.t⟩) (y := ⟨1, y.f, y.t⟩) rfl rfl gb
          dsimp only at x0 x1 x2 x3 x4 x5 x6 x7 x8 y0 y1 y2 y3 y4 y5 y6 y7 y8
          obtain ⟨z0, z1, z2, z3⟩ := B4.made rfl (gp.trans (G.trans (by (repeat' (first | (with_reducible exact G.refl _) | (with_reducible refine G.drewN ?_ _) | (with_reducible refine G.drew ?_) | (with_reducible refine G.alloc ?_ _)))) gb))
          rw [← hs1.out]
          go_wp2_with fail
          try (any_goals (go_roundg (i - (j + 1)); (case measure => have := HQ2.out; have := HJ.out; omega); (case rel => exact ⟨j + 1, by go_num, rfl, by have := HJ.out; omega, Lib.hid (by (repeat' (first | (with_reducible exact G.refl _) | (with_reducible assumption) | (with_reducible refine G.drewN ?_ _) | (with_reducible refine G.drew ?_) | (with_reducible refine G.alloc ?_ _) | (with_reducible refine G.setCell ?_ (by first | (with_reducible exact Nat.le_refl _) | (simp; done) | (simp; omega) | omega) _) | (with_reducible refine G.trans ?_ (by assumption)))))⟩)))
          refine (rCompare_any p x.t _).mono ?_
          rintro e w9 ⟨rfl, hG9⟩
          have gq := gb.trans (G.trans (by (repeat' (first | (with_reducible exact G.refl _) | (with_reducible refine G.drewN ?_ _) | (with_reducible refine G.drew ?_) | (with_reducible refine G.alloc ?_ _)))) hG9)
          clear gb
          have gb := gq
          clear gq
          clear x0 x1 x2 x3 x4 x5 x6 x7 x8
          clear y0 y1 y2 y3 y4 y5 y6 y7 y8
          clear z0 z1 z2 z3
          obtain ⟨⟨x0, x1, x2, x3, x4, x5, x6, x7, x8⟩, ⟨y0, y1, y2, y3, y4, y5, y6, y7, y8⟩⟩ := B9.made2 (x := ⟨1, x.f, x.t⟩) (y := ⟨1, y.f, y.t⟩) rfl rfl gb
          dsimp only at x0 x1 x2 x3 x4 x5 x6 x7 x8 y0 y1 y2 y3 y4 y5 y6 y7 y8
          obtain ⟨z0, z1, z2, z3⟩ := B4.made rfl (gp.trans (G.trans (by (repeat' (first | (with_reducible exact G.refl _) | (with_reducible refine G.drewN ?_ _) | (with_reducible refine G.drew ?_) | (with_reducible refine G.alloc ?_ _)))) gb))
          rw [← hs2.out]
          go_wp2_with fail
          try (any_goals (go_roundg (i - (j + 1)); (case measure => have := HQ2.out; have := HJ.out; omega); (case rel => exact ⟨j + 1, by go_num, rfl, by have := HJ.out; omega, Lib.hid (by (repeat' (first | (with_reducible exact G.refl _) | (with_reducible assumption) | (with_reducible refine G.drewN ?_ _) | (with_reducible refine G.drew ?_) | (with_reducible refine G.alloc ?_ _) | (with_reducible refine G.setCell ?_ (by first | (with_reducible exact Nat.le_refl _) | (simp; done) | (simp; omega) | omega) _) | (with_reducible refine G.trans ?_ (by assumption)))))⟩)))
          refine (rCompare_any y.f p _).mono ?_
          rintro e w9 ⟨rfl, hG9⟩
          have gq := gb.trans (G.trans (by (repeat' (first | (with_reducible exact G.refl _) | (with_reducible refine G.drewN ?_ _) | (with_reducible refine G.drew ?_) | (with_reducible refine G.alloc ?_ _)))) hG9)
          clear gb
          have gb := gq
          clear gq
          clear x0 x1 x2 x3 x4 x5 x6 x7 x8
          clear y0 y1 y2 y3 y4 y5 y6 y7 y8
          clear z0 z1 z2 z3
          obtain ⟨⟨x0, x1, x2, x3, x4, x5, x6, x7, x8⟩, ⟨y0, y1, y2, y3, y4, y5, y6, y7, y8⟩⟩ := B9.made2 (x := ⟨1, x.f, x.t⟩) (y := ⟨1, y.f, y.t⟩) rfl rfl gb
          dsimp only at x0 x1 x2 x3 x4 x5 x6 x7 x8 y0 y1 y2 y3 y4 y5 y6 y7 y8
          obtain ⟨z0, z1, z2, z3⟩ := B4.made rfl (gp.trans (G.trans (by (repeat' (first | (with_reducible exact G.refl _) | (with_reducible refine G.drewN ?_ _) | (with_reducible refine G.drew ?_) | (with_reducible refine G.alloc ?_ _)))) gb))
          rw [← hs3.out]
          go_wp2_with fail
          try (any_goals (go_roundg (i - (j + 1)); (case measure => have := HQ2.out; have := HJ.out; omega); (case rel => exact ⟨j + 1, by go_num, rfl, by have := HJ.out; omega, Lib.hid (by (repeat' (first | (with_reducible exact G.refl _) | (with_reducible assumption) | (with_reducible refine G.drewN ?_ _) | (with_reducible refine G.drew ?_) | (with_reducible refine G.alloc ?_ _) | (with_reducible refine G.setCell ?_ (by first | (with_reducible exact Nat.le_refl _) | (simp; done) | (simp; omega) | omega) _) | (with_reducible refine G.trans ?_ (by assumption)))))⟩)))
          refine (rCompare_any p y.t _).mono ?_
          rintro e w9 ⟨rfl, hG9⟩
          have gq := gb.trans (G.trans (by (repeat' (first | (with_reducible exact G.refl _) | (with_reducible refine G.drewN ?_ _) | (with_reducible refine G.drew ?_) | (with_reducible refine G.alloc ?_ _)))) hG9)
          clear gb
          have gb := gq
          clear gq
          clear x0 x1 x2 x3 x4 x5 x6 x7 x8
          clear y0 y1 y2 y3 y4 y5 y6 y7 y8
          clear z0 z1 z2 z3
          obtain ⟨⟨x0, x1, x2, x3, x4, x5, x6, x7, x8⟩, ⟨y0, y1, y2, y3, y4, y5, y6, y7, y8⟩⟩ := B9.made2 (x := ⟨1, x.f, x.t⟩) (y := ⟨1, y.f, y.t⟩) rfl rfl gb
          dsimp only at x0 x1 x2 x3 x4 x5 x6 x7 x8 y0 y1 y2 y3 y4 y5 y6 y7 y8
          obtain ⟨z0, z1, z2, z3⟩ := B4.made rfl (gp.trans (G.trans (by (repeat' (first | (with_reducible exact G.refl _) | (with_reducible refine G.drewN ?_ _) | (with_reducible refine G.drew ?_) | (with_reducible refine G.alloc ?_ _)))) gb))
          rw [← hs4.out]
          go_wp2_with fail
          try (any_goals (go_roundg (i - (j + 1)); (case measure => have := HQ2.out; have := HJ.out; omega); (case rel => exact ⟨j + 1, by go_num, rfl, by have := HJ.out; omega, Lib.hid (by (repeat' (first | (with_reducible exact G.refl _) | (with_reducible assumption) | (with_reducible refine G.drewN ?_ _) | (with_reducible refine G.drew ?_) | (with_reducible refine G.alloc ?_ _) | (with_reducible refine G.setCell ?_ (by first | (with_reducible exact Nat.le_refl _) | (simp; done) | (simp; omega) | omega) _) | (with_reducible refine G.trans ?_ (by assumption)))))⟩)))
          refine (rWithin_any ⟨1, x.f, x.t⟩ ⟨1, y.f, y.t⟩ _).mono ?_
          rintro e w9 ⟨rfl, hG9⟩
          have gq := gb.trans (G.trans (by (repeat' (first | (with_reducible exact G.refl _) | (with_reducible refine G.drewN ?_ _) | (with_reducible refine G.drew ?_) | (with_reducible refine G.alloc ?_ _)))) hG9)
          clear gb
          have gb := gq
          clear gq
          clear x0 x1 x2 x3 x4 x5 x6 x7 x8
          clear y0 y1 y2 y3 y4 y5 y6 y7 y8
          clear z0 z1 z2 z3
          obtain ⟨⟨x0, x1, x2, x3, x4, x5, x6, x7, x8⟩, ⟨y0, y1, y2, y3, y4, y5, y6, y7, y8⟩⟩ := B9.made2 (x := ⟨1, x.f, x.t⟩) (y := ⟨1, y.f, y.t⟩) rfl rfl gb
          dsimp only at x0 x1 x2 x3 x4 x5 x6 x7 x8 y0 y1 y2 y3 y4 y5 y6 y7 y8
          obtain ⟨z0, z1, z2, z3⟩ := B4.made rfl (gp.trans (G.trans (by (repeat' (first | (with_reducible exact G.refl _) | (with_reducible refine G.drewN ?_ _) | (with_reducible refine G.drew ?_) | (with_reducible refine G.alloc ?_ _)))) gb))
          rw [HXE.out, HYE.out, ← hwx.out]
          go_wp2_with fail
          try (any_goals (go_roundg (i - (j + 1)); (case measure => have := HQ2.out; have := HJ.out; omega); (case rel => exact ⟨j + 1, by go_num, rfl, by have := HJ.out; omega, Lib.hid (by (repeat' (first | (with_reducible exact G.refl _) | (with_reducible assumption) | (with_reducible refine G.drewN ?_ _) | (with_reducible refine G.drew ?_) | (with_reducible refine G.alloc ?_ _) | (with_reducible refine G.setCell ?_ (by first | (with_reducible exact Nat.le_refl _) | (simp; done) | (simp; omega) | omega) _) | (with_reducible refine G.trans ?_ (by assumption)))))⟩)))
          refine (rWithin_any ⟨1, y.f, y.t⟩ ⟨1, x.f, x.t⟩ _).mono ?_
          rintro e w9 ⟨rfl, hG9⟩
          rw [HXE.out, HYE.out, ← hwy.out]
          go_wp2_with fail
          try (any_goals (go_roundg (i - (j + 1)); (case measure => have := HQ2.out; have := HJ.out; omega); (case rel => exact ⟨j + 1, by go_num, rfl, by have := HJ.out; omega, Lib.hid (by (repeat' (first | (with_reducible exact G.refl _) | (with_reducible assumption) | (with_reducible refine G.drewN ?_ _) | (with_reducible refine G.drew ?_) | (with_reducible refine G.alloc ?_ _) | (with_reducible refine G.setCell ?_ (by first | (with_reducible exact Nat.le_refl _) | (simp; done) | (simp; omega) | omega) _) | (with_reducible refine G.trans ?_ (by assumption)))))⟩)))
          exfalso
          exact HNE.out cq hcq.out (by rw [← hkx.out]; rfl) (by rw [← hky.out]; rfl) (by first | assumption | exact bt1 (by assumption) | exact bt2 (by assumption) | exact bt3 (by assumption)) (by first | assumption | exact bt1 (by assumption) | exact bt2 (by assumption) | exact bt3 (by assumption)) (by assumption) (by assumption) (by assumption) (by assumption) (by first | assumption | exact bt1 (by assumption) | exact bt2 (by assumption) | exact bt3 (by assumption)) (by first | assumption | exact bt1 (by assumption) | exact bt2 (by assumption) | exact bt3 (by assumption))
        · by_cases hk1 : kx = 1 ∧ ky = 1
          rotate_left
          · have HK1 := Lib.hid hk1
            clear hk1
            go_wp2_with fail
            all_goals (first | (exfalso; have hz := HK1.out; omega) | (go_roundg (i - (j + 1)); (case measure => have := HQ2.out; have := HJ.out; omega); (case rel => exact ⟨j + 1, by go_num, rfl, by have := HJ.out; omega, Lib.hid (by (repeat' (first | (with_reducible exact G.refl _) | (with_reducible assumption) | (with_reducible refine G.drewN ?_ _) | (with_reducible refine G.drew ?_) | (with_reducible refine G.alloc ?_ _) | (with_reducible refine G.setCell ?_ (by first | (with_reducible exact Nat.le_refl _) | (simp; done) | (simp; omega) | omega) _) | (with_reducible refine G.trans ?_ (by assumption)))))⟩)))
          have HXE := Lib.hid (show (⟨1, x.f, x.t⟩ : Sp) = x by rw [← hk1.1, hkx.out])
          have HYE := Lib.hid (show (⟨1, y.f, y.t⟩ : Sp) = y by rw [← hk1.2, hky.out])
          obtain ⟨rfl, rfl⟩ := hk1
          have gb : G ((wr.alloc (.cells #[.int .i64 1, .int .i64 y.f.m, .int .i64 y.f.a, .int .i64 y.f.s, .int .i64 y.f.v, .int .i64 y.t.m, .int .i64 y.t.a, .int .i64 y.t.s, .int .i64 y.t.v] 25)).alloc (.cells #[.int .i64 1, .int .i64 x.f.m, .int .i64 x.f.a, .int .i64 x.f.s, .int .i64 x.f.v, .int .i64 x.t.m, .int .i64 x.t.a, .int .i64 x.t.s, .int .i64 x.t.v] 25)) ((wr.alloc (.cells #[.int .i64 1, .int .i64 y.f.m, .int .i64 y.f.a, .int .i64 y.f.s, .int .i64 y.f.v, .int .i64 y.t.m, .int .i64 y.t.a, .int .i64 y.t.s, .int .i64 y.t.v] 25)).alloc (.cells #[.int .i64 1, .int .i64 x.f.m, .int .i64 x.f.a, .int .i64 x.f.s, .int .i64 x.f.v, .int .i64 x.t.m, .int .i64 x.t.a, .int .i64 x.t.s, .int .i64 x.t.v] 25)) := G.refl _
          go_wp2_with fail
          try (any_goals (go_roundg (i - (j + 1)); (case measure => have := HQ2.out; have := HJ.out; omega); (case rel => exact ⟨j + 1, by go_num, rfl, by have := HJ.out; omega, Lib.hid (by (repeat' (first | (with_reducible exact G.refl _) | (with_reducible assumption) | (with_reducible refine G.drewN ?_ _) | (with_reducible refine G.drew ?_) | (with_reducible refine G.alloc ?_ _) | (with_reducible refine G.setCell ?_ (by first | (with_reducible exact Nat.le_refl _) | (simp; done) | (simp; omega) | omega) _) | (with_reducible refine G.trans ?_ (by assumption)))))⟩)))
          obtain ⟨cq, hcq⟩ : ∃ z : Bool, Hid (z = decide (Cov x p)) := ⟨_, rfl⟩
          refine (rCovers_any ⟨1, x.f, x.t⟩ p _).mono ?_
          rintro e w9 ⟨rfl, hG9⟩
          have gq := gb.trans (G.trans (by (repeat' (first | (with_reducible exact G.refl _) | (with_reducible refine G.drewN ?_ _) | (with_reducible refine G.drew ?_) | (with_reducible refine G.alloc ?_ _)))) hG9)
          clear gb
          have gb := gq
          clear gq
          clear x0 x1 x2 x3 x4 x5 x6 x7 x8
          clear y0 y1 y2 y3 y4 y5 y6 y7 y8
          clear z0 z1 z2 z3
          obtain ⟨⟨y0, y1, y2, y3, y4, y5, y6, y7, y8⟩, ⟨x0, x1, x2, x3, x4, x5, x6, x7, x8⟩⟩ := B9.made2 (x := ⟨1, y.f, y.t⟩) (y := ⟨1, x.f, x.t⟩) rfl rfl gb
          dsimp only at x0 x1 x2 x3 x4 x5 x6 x7 x8 y0 y1 y2 y3 y4 y5 y6 y7 y8
          obtain ⟨z0, z1, z2, z3⟩ := B4.made rfl (gp.trans (G.trans (by (repeat' (first | (with_reducible exact G.refl _) | (with_reducible refine G.drewN ?_ _) | (with_reducible refine G.drew ?_) | (with_reducible refine G.alloc ?_ _)))) gb))
          rw [HXE.out, ← hcq.out]
          go_wp2_with fail
          try (any_goals (go_roundg (i - (j + 1)); (case measure => have := HQ2.out; have := HJ.out; omega); (case rel => exact ⟨j + 1, by go_num, rfl, by have := HJ.out; omega, Lib.hid (by (repeat' (first | (with_reducible exact G.refl _) | (with_reducible assumption) | (with_reducible refine G.drewN ?_ _) | (with_reducible refine G.drew ?_) | (with_reducible refine G.alloc ?_ _) | (with_reducible refine G.setCell ?_ (by first | (with_reducible exact Nat.le_refl _) | (simp; done) | (simp; omega) | omega) _) | (with_reducible refine G.trans ?_ (by assumption)))))⟩)))
          refine (rCovers_any ⟨1, y.f, y.t⟩ p _).mono ?_
          rintro e w9 ⟨rfl, hG9⟩
          have gq := gb.trans (G.trans (by (repeat' (first | (with_reducible exact G.refl _) | (with_reducible refine G.drewN ?_ _) | (with_reducible refine G.drew ?_) | (with_reducible refine G.alloc ?_ _)))) hG9)
          clear gb
          have gb := gq
          clear gq
          clear x0 x1 x2 x3 x4 x5 x6 x7 x8
          clear y0 y1 y2 y3 y4 y5 y6 y7 y8
          clear z0 z1 z2 z3
          obtain ⟨⟨y0, y1, y2, y3, y4, y5, y6, y7, y8⟩, ⟨x0, x1, x2, x3, x4, x5, x6, x7, x8⟩⟩ := B9.made2 (x := ⟨1, y.f, y.t⟩) (y := ⟨1, x.f, x.t⟩) rfl rfl gb
          dsimp only at x0 x1 x2 x3 x4 x5 x6 x7 x8 y0 y1 y2 y3 y4 y5 y6 y7 y8
          obtain ⟨z0, z1, z2, z3⟩ := B4.made rfl (gp.trans (G.trans (by (repeat' (first | (with_reducible exact G.refl _) | (with_reducible refine G.drewN ?_ _) | (with_reducible refine G.drew ?_) | (with_reducible refine G.alloc ?_ _)))) gb))
          rw [HYE.out, ← hcy.out]
          go_wp2_with fail
          try (any_goals (go_roundg (i - (j + 1)); (case measure => have := HQ2.out; have := HJ.out; omega); (case rel => exact ⟨j + 1, by go_num, rfl, by have := HJ.out; omega, Lib.hid (by (repeat' (first | (with_reducible exact G.refl _) | (with_reducible assumption) | (with_reducible refine G.drewN ?_ _) | (with_reducible refine G.drew ?_) | (with_reducible refine G.alloc ?_ _) | (with_reducible refine G.setCell ?_ (by first | (with_reducible exact Nat.le_refl _) | (simp; done) | (simp; omega) | omega) _) | (with_reducible refine G.trans ?_ (by assumption)))))⟩)))
          refine (rCompare_any x.f p _).mono ?_
          rintro e w9 ⟨rfl, hG9⟩
          have gq := gb.trans (G.trans (by (repeat' (first | (with_reducible exact G.refl _) | (with_reducible refine G.drewN ?_ _) | (with_reducible refine G.drew ?_) | (with_reducible refine G.alloc ?_ _)))) hG9)
          clear gb
          have gb := gq
          clear gq
          clear x0 x1 x2 x3 x4 x5 x6 x7 x8
          clear y0 y1 y2 y3 y4 y5 y6 y7 y8
          clear z0 z1 z2 z3
          obtain ⟨⟨y0, y1, y2, y3, y4, y5, y6, y7, y8⟩, ⟨x0, x1, x2, x3, x4, x5, x6, x7, x8⟩⟩ := B9.made2 (x := ⟨1, y.f, y.t⟩) (y := ⟨1, x.f, x.t⟩) rfl rfl gb
          dsimp only at x0 x1 x2 x3 x4 x5 x6 x7 x8 y0 y1 y2 y3 y4 y5 y6 y7 y8
          obtain ⟨z0, z1, z2, z3⟩ := B4.made rfl (gp.trans (G.trans (by (repeat' (first | (with_reducible exact G.refl _) | (with_reducible refine G.drewN ?_ _) | (with_reducible refine G.drew ?_) | (with_reducible refine G.alloc ?_ _)))) gb))
          rw [← hs1.out]
          go_wp2_with fail
          try (any_goals (go_roundg (i - (j + 1)); (case measure => have := HQ2.out; have := HJ.out; omega); (case rel => exact ⟨j + 1, by go_num, rfl, by have := HJ.out; omega, Lib.hid (by (repeat' (first | (with_reducible exact G.refl _) | (with_reducible assumption) | (with_reducible refine G.drewN ?_ _) | (with_reducible refine G.drew ?_) | (with_reducible refine G.alloc ?_ _) | (with_reducible refine G.setCell ?_ (by first | (with_reducible exact Nat.le_refl _) | (simp; done) | (simp; omega) | omega) _) | (with_reducible refine G.trans ?_ (by assumption)))))⟩)))
          refine (rCompare_any p x.t _).mono ?_
          rintro e w9 ⟨rfl, hG9⟩
          have gq := gb.trans (G.trans (by (repeat' (first | (with_reducible exact G.refl _) | (with_reducible refine G.drewN ?_ _) | (with_reducible refine G.drew ?_) | (with_reducible refine G.alloc ?_ _)))) hG9)
          clear gb
          have gb := gq
          clear gq
          clear x0 x1 x2 x3 x4 x5 x6 x7 x8
          clear y0 y1 y2 y3 y4 y5 y6 y7 y8
          clear z0 z1 z2 z3
          obtain ⟨⟨y0, y1, y2, y3, y4, y5, y6, y7, y8⟩, ⟨x0, x1, x2, x3, x4, x5, x6, x7, x8⟩⟩ := B9.made2 (x := ⟨1, y.f, y.t⟩) (y := ⟨1, x.f, x.t⟩) rfl rfl gb
          dsimp only at x0 x1 x2 x3 x4 x5 x6 x7 x8 y0 y1 y2 y3 y4 y5 y6 y7 y8
          obtain ⟨z0, z1, z2, z3⟩ := B4.made rfl (gp.trans (G.trans (by (repeat' (first | (with_reducible exact G.refl _) | (with_reducible refine G.drewN ?_ _) | (with_reducible refine G.drew ?_) | (with_reducible refine G.alloc ?_ _)))) gb))
          rw [← hs2.out]
          go_wp2_with fail
          try (any_goals (go_roundg (i - (j + 1)); (case measure => have := HQ2.out; have := HJ.out; omega); (case rel => exact ⟨j + 1, by go_num, rfl, by have := HJ.out; omega, Lib.hid (by (repeat' (first | (with_reducible exact G.refl _) | (with_reducible assumption) | (with_reducible refine G.drewN ?_ _) | (with_reducible refine G.drew ?_) | (with_reducible refine G.alloc ?_ _) | (with_reducible refine G.setCell ?_ (by first | (with_reducible exact Nat.le_refl _) | (simp; done) | (simp; omega) | omega) _) | (with_reducible refine G.trans ?_ (by assumption)))))⟩)))
          refine (rCompare_any y.f p _).mono ?_
          rintro e w9 ⟨rfl, hG9⟩
          have gq := gb.trans (G.trans (by (repeat' (first | (with_reducible exact G.refl _) | (with_reducible refine G.drewN ?_ _) | (with_reducible refine G.drew ?_) | (with_reducible refine G.alloc ?_ _)))) hG9)
          clear gb
          have gb := gq
          clear gq
          clear x0 x1 x2 x3 x4 x5 x6 x7 x8
          clear y0 y1 y2 y3 y4 y5 y6 y7 y8
          clear z0 z1 z2 z3
          obtain ⟨⟨y0, y1, y2, y3, y4, y5, y6, y7, y8⟩, ⟨x0, x1, x2, x3, x4, x5, x6, x7, x8⟩⟩ := B9.made2 (x := ⟨1, y.f, y.t⟩) (y := ⟨1, x.f, x.t⟩) rfl rfl gb
          dsimp only at x0 x1 x2 x3 x4 x5 x6 x7 x8 y0 y1 y2 y3 y4 y5 y6 y7 y8
          obtain ⟨z0, z1, z2, z3⟩ := B4.made rfl (gp.trans (G.trans (by (repeat' (first | (with_reducible exact G.refl _) | (with_reducible refine G.drewN ?_ _) | (with_reducible refine G.drew ?_) | (with_reducible refine G.alloc ?_ _)))) gb))
          rw [← hs3.out]
          go_wp2_with fail
          try (any_goals (go_roundg (i - (j + 1)); (case measure => have := HQ2.out; have := HJ.out; omega); (case rel => exact ⟨j + 1, by go_num, rfl, by have := HJ.out; omega, Lib.hid (by (repeat' (first | (with_reducible exact G.refl _) | (with_reducible assumption) | (with_reducible refine G.drewN ?_ _) | (with_reducible refine G.drew ?_) | (with_reducible refine G.alloc ?_ _) | (with_reducible refine G.setCell ?_ (by first | (with_reducible exact Nat.le_refl _) | (simp; done) | (simp; omega) | omega) _) | (with_reducible refine G.trans ?_ (by assumption)))))⟩)))
          refine (rCompare_any p y.t _).mono ?_
          rintro e w9 ⟨rfl, hG9⟩
          have gq := gb.trans (G.trans (by (repeat' (first | (with_reducible exact G.refl _) | (with_reducible refine G.drewN ?_ _) | (with_reducible refine G.drew ?_) | (with_reducible refine G.alloc ?_ _)))) hG9)
          clear gb
          have gb := gq
          clear gq
          clear x0 x1 x2 x3 x4 x5 x6 x7 x8
          clear y0 y1 y2 y3 y4 y5 y6 y7 y8
          clear z0 z1 z2 z3
          obtain ⟨⟨y0, y1, y2, y3, y4, y5, y6, y7, y8⟩, ⟨x0, x1, x2, x3, x4, x5, x6, x7, x8⟩⟩ := B9.made2 (x := ⟨1, y.f, y.t⟩) (y := ⟨1, x.f, x.t⟩) rfl rfl gb
          dsimp only at x0 x1 x2 x3 x4 x5 x6 x7 x8 y0 y1 y2 y3 y4 y5 y6 y7 y8
          obtain ⟨z0, z1, z2, z3⟩ := B4.made rfl (gp.trans (G.trans (by (repeat' (first | (with_reducible exact G.refl _) | (with_reducible refine G.drewN ?_ _) | (with_reducible refine G.drew ?_) | (with_reducible refine G.alloc ?_ _)))) gb))
          rw [← hs4.out]
          go_wp2_with fail
          try (any_goals (go_roundg (i - (j + 1)); (case measure => have := HQ2.out; have := HJ.out; omega); (case rel => exact ⟨j + 1, by go_num, rfl, by have := HJ.out; omega, Lib.hid (by (repeat' (first | (with_reducible exact G.refl _) | (with_reducible assumption) | (with_reducible refine G.drewN ?_ _) | (with_reducible refine G.drew ?_) | (with_reducible refine G.alloc ?_ _) | (with_reducible refine G.setCell ?_ (by first | (with_reducible exact Nat.le_refl _) | (simp; done) | (simp; omega) | omega) _) | (with_reducible refine G.trans ?_ (by assumption)))))⟩)))
          refine (rWithin_any ⟨1, x.f, x.t⟩ ⟨1, y.f, y.t⟩ _).mono ?_
          rintro e w9 ⟨rfl, hG9⟩
          have gq := gb.trans (G.trans (by (repeat' (first | (with_reducible exact G.refl _) | (with_reducible refine G.drewN ?_ _) | (with_reducible refine G.drew ?_) | (with_reducible refine G.alloc ?_ _)))) hG9)
          clear gb
          have gb := gq
          clear gq
          clear x0 x1 x2 x3 x4 x5 x6 x7 x8
          clear y0 y1 y2 y3 y4 y5 y6 y7 y8
          clear z0 z1 z2 z3
          obtain ⟨⟨y0, y1, y2, y3, y4, y5, y6, y7, y8⟩, ⟨x0, x1, x2, x3, x4, x5, x6, x7, x8⟩⟩ := B9.made2 (x := ⟨1, y.f, y.t⟩) (y := ⟨1, x.f, x.t⟩) rfl rfl gb
          dsimp only at x0 x1 x2 x3 x4 x5 x6 x7 x8 y0 y1 y2 y3 y4 y5 y6 y7 y8
          obtain ⟨z0, z1, z2, z3⟩ := B4.made rfl (gp.trans (G.trans (by (repeat' (first | (with_reducible exact G.refl _) | (with_reducible refine G.drewN ?_ _) | (with_reducible refine G.drew ?_) | (with_reducible refine G.alloc ?_ _)))) gb))
          rw [HXE.out, HYE.out, ← hwx.out]
          go_wp2_with fail
          try (any_goals (go_roundg (i - (j + 1)); (case measure => have := HQ2.out; have := HJ.out; omega); (case rel => exact ⟨j + 1, by go_num, rfl, by have := HJ.out; omega, Lib.hid (by (repeat' (first | (with_reducible exact G.refl _) | (with_reducible assumption) | (with_reducible refine G.drewN ?_ _) | (with_reducible refine G.drew ?_) | (with_reducible refine G.alloc ?_ _) | (with_reducible refine G.setCell ?_ (by first | (with_reducible exact Nat.le_refl _) | (simp; done) | (simp; omega) | omega) _) | (with_reducible refine G.trans ?_ (by assumption)))))⟩)))
          refine (rWithin_any ⟨1, y.f, y.t⟩ ⟨1, x.f, x.t⟩ _).mono ?_
          rintro e w9 ⟨rfl, hG9⟩
          rw [HXE.out, HYE.out, ← hwy.out]
          go_wp2_with fail
          try (any_goals (go_roundg (i - (j + 1)); (case measure => have := HQ2.out; have := HJ.out; omega); (case rel => exact ⟨j + 1, by go_num, rfl, by have := HJ.out; omega, Lib.hid (by (repeat' (first | (with_reducible exact G.refl _) | (with_reducible assumption) | (with_reducible refine G.drewN ?_ _) | (with_reducible refine G.drew ?_) | (with_reducible refine G.alloc ?_ _) | (with_reducible refine G.setCell ?_ (by first | (with_reducible exact Nat.le_refl _) | (simp; done) | (simp; omega) | omega) _) | (with_reducible refine G.trans ?_ (by assumption)))))⟩)))
          exfalso
          exact HNE.out cq hcq.out (by rw [← hkx.out]; rfl) (by rw [← hky.out]; rfl) (by first | assumption | exact bt1 (by assumption) | exact bt2 (by assumption) | exact bt3 (by assumption)) (by first | assumption | exact bt1 (by assumption) | exact bt2 (by assumption) | exact bt3 (by assumption)) (by assumption) (by assumption) (by assumption) (by assumption) (by first | assumption | exact bt1 (by assumption) | exact bt2 (by assumption) | exact bt3 (by assumption)) (by first | assumption | exact bt1 (by assumption) | exact bt2 (by assumption) | exact bt3 (by assumption))
      · have hjj : j = i := by omega
        subst hjj
        go_wp2_with fail
        apply HQX.out
        exact gr2.out
end Go.Proofs.YtgepjpbdfjcaaaaDoor
