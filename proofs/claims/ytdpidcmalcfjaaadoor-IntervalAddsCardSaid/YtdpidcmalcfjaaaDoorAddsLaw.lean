/- IntervalAdds: for every two intervals, Check, Add, Sub and Negate return what the reference says; the arguments read as before; the tables that the row lists are tied to the program text; no further condition. -/
import Derived.Test.YtdpidcmalcfjaaaDoorRSum2
import Derived.Test.YtdpidcmalcfjaaaDoorLaid
import Derived.Deep.RegionHeld3
import Derived.Deep.DeepCutAuto
namespace Go.Proofs.YtdpidcmalcfjaaaDoor
open Go.RowKit
attribute [local go_sem] World.cell?_alloc_some

theorem neg_eq (a b : Int) : sy 0 0 a b (0 + a) = iy a b a ∧ sy 0 0 a b (0 + b) = iy a b b ∧ se 0 0 a b = ie a b := by
  have i0 : Iv 0 0 := by decide
  unfold sy se iy ie
  rw [Int.zero_add, Int.zero_add]
  by_cases h : Iv a b
  · have n : Sm 0 0 a b := ⟨⟨i0, h⟩, by rw [Int.zero_add, Int.zero_add]; exact h⟩
    rw [if_pos h, if_pos h, if_pos h, if_pos n, if_pos n, if_pos n]; exact ⟨rfl, rfl, rfl⟩
  · have n : ¬ Sm 0 0 a b := fun k => h k.1.2
    rw [if_neg h, if_neg h, if_neg h, if_neg n, if_neg n, if_neg n]; exact ⟨rfl, rfl, rfl⟩

set_option maxRecDepth 100000 in
set_option maxHeartbeats 6400000 in
theorem adds_walk (a b c d : Int) (w : World) (a0 : -9223372036854775808 ≤ a) (a1 : a ≤ 9223372036854775807) (b0 : -9223372036854775808 ≤ b) (b1 : b ≤ 9223372036854775807) (c0 : -9223372036854775808 ≤ c) (c1 : c ≤ 9223372036854775807) (d0 : -9223372036854775808 ≤ d) (d1 : d ≤ 9223372036854775807) (hT : Tab w) :
    Calls Tryd.prog 3 #[.agg #[.int .i64 a, .int .i64 b], .agg #[.int .i64 c, .int .i64 d]] w fun e w' => e = .returned (.bool true) ∧ G w w' := by
  have HT := Lib.hid hT
  obtain ⟨a', ha⟩ : ∃ z : Int, Hid (IntKind.i64.wrap (-a) = z) := ⟨_, rfl⟩
  obtain ⟨b', hb⟩ : ∃ z : Int, Hid (IntKind.i64.wrap (-b) = z) := ⟨_, rfl⟩
  obtain ⟨c', hc⟩ : ∃ z : Int, Hid (IntKind.i64.wrap (-c) = z) := ⟨_, rfl⟩
  obtain ⟨d', hd⟩ : ∃ z : Int, Hid (IntKind.i64.wrap (-d) = z) := ⟨_, rfl⟩
  have HB := Lib.hid (And.intro (And.intro a0 (And.intro a1 (And.intro b0 b1))) (And.intro c0 (And.intro c1 (And.intro d0 d1))))
  obtain ⟨A1, hA1⟩ : ∃ z : Int, Hid (z = sy a b c d (a + c)) := ⟨_, rfl⟩
  obtain ⟨A2, hA2⟩ : ∃ z : Int, Hid (z = sy a b c d (b + d)) := ⟨_, rfl⟩
  obtain ⟨A3, hA3⟩ : ∃ z : Int, Hid (z = se a b c d) := ⟨_, rfl⟩
  obtain ⟨S1, hS1⟩ : ∃ z : Int, Hid (z = sy a b c' d' (a + c')) := ⟨_, rfl⟩
  obtain ⟨S2, hS2⟩ : ∃ z : Int, Hid (z = sy a b c' d' (b + d')) := ⟨_, rfl⟩
  obtain ⟨S3, hS3⟩ : ∃ z : Int, Hid (z = se a b c' d') := ⟨_, rfl⟩
  obtain ⟨N1, hN1⟩ : ∃ z : Int, Hid (z = iy a' b' a') := ⟨_, rfl⟩
  obtain ⟨N2, hN2⟩ : ∃ z : Int, Hid (z = iy a' b' b') := ⟨_, rfl⟩
  obtain ⟨N3, hN3⟩ : ∃ z : Int, Hid (z = ie a' b') := ⟨_, rfl⟩
  have HE := Lib.hid (neg_eq a' b')
  clear hT a0 a1 b0 b1 c0 c1 d0 d1
  go_enter Tryd.func3, Tryd.ntmps3
  go_wp2_with fail
  refine (iAdd_any a b c d _).mono ?_
  rintro e w1 ⟨rfl, hG1⟩
  rw [← hA1.out, ← hA2.out, ← hA3.out]
  obtain ⟨⟨y0, y1⟩, ⟨y2, y3⟩, _, _⟩ := duo2_later hG1
  go_wp2_with fail
  refine (iSub_any a b c d c' d' _ hc.out hd.out).mono ?_
  rintro e w2 ⟨rfl, hG2⟩
  rw [← hS1.out, ← hS2.out, ← hS3.out]
  have k2 : G w1 w2 := G.trans (by (repeat' (first | (with_reducible exact G.refl _) | (with_reducible refine G.drewN ?_ _) | (with_reducible refine G.drew ?_) | (with_reducible refine G.alloc ?_ _)))) hG2
  replace y0 := k2.at y0
  replace y1 := k2.at y1
  replace y2 := k2.at y2
  replace y3 := k2.at y3
  obtain ⟨r0, r1⟩ := duo_later hG2
  go_wp2_with fail
  refine (iNegate_any a b a' b' _ ha.out hb.out).mono ?_
  rintro e w3 ⟨rfl, hG3⟩
  rw [← hN1.out, ← hN2.out, ← hN3.out]
  have k3 : G w2 w3 := G.trans (by (repeat' (first | (with_reducible exact G.refl _) | (with_reducible refine G.drewN ?_ _) | (with_reducible refine G.drew ?_) | (with_reducible refine G.alloc ?_ _)))) hG3
  replace y0 := k3.at y0
  replace y1 := k3.at y1
  replace y2 := k3.at y2
  replace y3 := k3.at y3
  replace r0 := k3.at r0
  replace r1 := k3.at r1
  obtain ⟨v0, v1⟩ := duo_later hG3
  go_wp2_with fail
  refine (radd_any a b c d _).mono ?_
  rintro e w4 ⟨rfl, hG4⟩
  rw [← hA1.out, ← hA2.out, ← hA3.out]
  have k4 : G w3 w4 := G.trans (by (repeat' (first | (with_reducible exact G.refl _) | (with_reducible refine G.drewN ?_ _) | (with_reducible refine G.drew ?_) | (with_reducible refine G.alloc ?_ _)))) hG4
  replace y0 := k4.at y0
  replace y1 := k4.at y1
  replace y2 := k4.at y2
  replace y3 := k4.at y3
  replace r0 := k4.at r0
  replace r1 := k4.at r1
  replace v0 := k4.at v0
  replace v1 := k4.at v1
  obtain ⟨n0, n1⟩ := duo_later hG4
  go_wp2_with fail
  refine (rsub_any a b c d c' d' _ hc.out hd.out HB.out.2.1 HB.out.2.2.1 HB.out.2.2.2.1 HB.out.2.2.2.2).mono ?_
  rintro e w5 ⟨rfl, hG5⟩
  rw [← hS1.out, ← hS2.out, ← hS3.out]
  have k5 : G w4 w5 := G.trans (by (repeat' (first | (with_reducible exact G.refl _) | (with_reducible refine G.drewN ?_ _) | (with_reducible refine G.drew ?_) | (with_reducible refine G.alloc ?_ _)))) hG5
  replace y0 := k5.at y0
  replace y1 := k5.at y1
  replace y2 := k5.at y2
  replace y3 := k5.at y3
  replace r0 := k5.at r0
  replace r1 := k5.at r1
  replace v0 := k5.at v0
  replace v1 := k5.at v1
  replace n0 := k5.at n0
  replace n1 := k5.at n1
  obtain ⟨x0, x1⟩ := duo_later hG5
  go_wp2_with fail
  refine (rsub_any 0 0 a b a' b' _ ha.out hb.out HB.out.1.1 HB.out.1.2.1 HB.out.1.2.2.1 HB.out.1.2.2.2).mono ?_
  rintro e w6 ⟨rfl, hG6⟩
  rw [HE.out.1, HE.out.2.1, HE.out.2.2, ← hN1.out, ← hN2.out, ← hN3.out]
  have k6 : G w5 w6 := G.trans (by (repeat' (first | (with_reducible exact G.refl _) | (with_reducible refine G.drewN ?_ _) | (with_reducible refine G.drew ?_) | (with_reducible refine G.alloc ?_ _)))) hG6
  replace y0 := k6.at y0
  replace y1 := k6.at y1
  replace y2 := k6.at y2
  replace y3 := k6.at y3
  replace r0 := k6.at r0
  replace r1 := k6.at r1
  replace v0 := k6.at v0
  replace v1 := k6.at v1
  replace n0 := k6.at n0
  replace n1 := k6.at n1
  replace x0 := k6.at x0
  replace x1 := k6.at x1
  obtain ⟨z0, z1⟩ := duo_later hG6
  have gw : G w w6 := (G.trans (by (repeat' (first | (with_reducible exact G.refl _) | (with_reducible refine G.drewN ?_ _) | (with_reducible refine G.drew ?_) | (with_reducible refine G.alloc ?_ _)))) hG1).trans (k2.trans (k3.trans (k4.trans (k5.trans k6))))
  go_wp2_with fail
  have gz : G w6 (w6.alloc (.cells #[.int .i64 N1, .int .i64 N2] 23)) := by (repeat' (first | (with_reducible exact G.refl _) | (with_reducible refine G.drewN ?_ _) | (with_reducible refine G.drew ?_) | (with_reducible refine G.alloc ?_ _)))
  have q0 : (w6.alloc (.cells #[.int .i64 N1, .int .i64 N2] 23)).cell? ⟨w6.heap.size, 0, none⟩ = some (.int .i64 N1) := by go_cell
  have q1 : (w6.alloc (.cells #[.int .i64 N1, .int .i64 N2] 23)).cell? ⟨w6.heap.size, 1, none⟩ = some (.int .i64 N2) := by go_cell
  replace y0 := gz.at y0
  replace y1 := gz.at y1
  replace r0 := gz.at r0
  replace r1 := gz.at r1
  replace v0 := gz.at v0
  replace v1 := gz.at v1
  replace n0 := gz.at n0
  replace n1 := gz.at n1
  replace x0 := gz.at x0
  replace x1 := gz.at x1
  replace z0 := gz.at z0
  replace z1 := gz.at z1
  replace gw := gw.trans gz
  obtain ⟨WZ, hWZ⟩ : ∃ WZ : World, Hid (WZ = w6.alloc (.cells #[.int .i64 N1, .int .i64 N2] 23)) := ⟨_, rfl⟩
  rw [← hWZ.out] at y0 y1 r0 r1 v0 v1 n0 n1 x0 x1 z0 z1 q0 q1 gw ⊢
  clear y2 y3 gz
  have gb : G WZ WZ := G.refl _
  by_cases h : Iv a b
  · have HV := Lib.hid h
    clear h
    refine wp_region_held_drew (S := fun w' => w'.cell? ⟨w.heap.size, 0, none⟩ = some (.int .i64 a) ∧ w'.cell? ⟨w.heap.size, 1, none⟩ = some (.int .i64 b) ∧ w'.cell? ⟨w1.heap.size, 0, none⟩ = some (.int .i64 A1) ∧ w'.cell? ⟨w1.heap.size, 1, none⟩ = some (.int .i64 A2) ∧ w'.cell? ⟨w2.heap.size, 0, none⟩ = some (.int .i64 S1) ∧ w'.cell? ⟨w2.heap.size, 1, none⟩ = some (.int .i64 S2) ∧ w'.cell? ⟨w3.heap.size, 0, none⟩ = some (.int .i64 N1) ∧ w'.cell? ⟨w3.heap.size, 1, none⟩ = some (.int .i64 N2) ∧ w'.cell? ⟨w4.heap.size, 0, none⟩ = some (.int .i64 A1) ∧ w'.cell? ⟨w4.heap.size, 1, none⟩ = some (.int .i64 A2) ∧ w'.cell? ⟨w5.heap.size, 0, none⟩ = some (.int .i64 S1) ∧ w'.cell? ⟨w5.heap.size, 1, none⟩ = some (.int .i64 S2) ∧ w'.cell? ⟨w6.heap.size, 0, none⟩ = some (.int .i64 N1) ∧ w'.cell? ⟨w6.heap.size, 1, none⟩ = some (.int .i64 N2)) (by kernel_rfl) (by ((try dsimp only); first | (with_reducible assumption) | ((repeat' (with_reducible apply And.intro)) <;> go_simp))) (fun hH0 => ?_)
    refine wpAnyH_ready (rs := [0]) (by kernel_rfl) (by simp) ?_
    refine AllReadyH.cons (o := { dst := some 52, op := Op.call { callee := Callee.value (Operand.func 15), args := #[], argTypes := #[] }, type := 4, pos := "law.go:29", after := #[], guard := none }) rfl (fun K hK => ?_) AllReadyH.nil
    go_simp
    go_at_call 15
    refine (known_any _ (HT.out.later (gw.trans (by (repeat' (first | (with_reducible exact G.refl _) | (with_reducible assumption) | (with_reducible refine G.drewN ?_ _) | (with_reducible refine G.drew ?_) | (with_reducible refine G.alloc ?_ _) | (with_reducible refine G.setCell ?_ (by first | (with_reducible exact Nat.le_refl _) | (simp; done) | (simp; omega) | omega) _) | (with_reducible refine G.trans ?_ (by assumption)))))))).mono ?_
    rintro e w20 ⟨rfl, hG9⟩
    have gq := gb.trans (G.trans (by (repeat' (first | (with_reducible exact G.refl _) | (with_reducible refine G.drewN ?_ _) | (with_reducible refine G.drew ?_) | (with_reducible refine G.alloc ?_ _)))) hG9)
    clear gb
    have gb := gq
    have y0' := gb.at y0
    have y1' := gb.at y1
    have r0' := gb.at r0
    have r1' := gb.at r1
    have v0' := gb.at v0
    have v1' := gb.at v1
    have n0' := gb.at n0
    have n1' := gb.at n1
    have x0' := gb.at x0
    have x1' := gb.at x1
    have z0' := gb.at z0
    have z1' := gb.at z1
    have q0' := gb.at q0
    have q1' := gb.at q1
    refine hK.out _ _ (by ((try dsimp only); first | (with_reducible assumption) | ((repeat' (with_reducible apply And.intro)) <;> go_simp))) (fun hH1 => ?_)
    clear hK K hH0
    refine wpAnyH_take (i := 1) (oi := { dst := some 53, op := Op.move (Operand.tmp 52), type := 4, pos := "law.go:29", after := #[{ on := 0, ground := Ground.data }, { on := 0, ground := Ground.chain }], guard := none }) (v := ?_) rfl (by kernel_rfl) (by kernel_rfl) (by kernel_rfl) (fun _ _ _ h => h) (Or.inl ⟨by rfl, ?_⟩) (by assumption) ?_
    rotate_left
    · (intro w hSw; (try dsimp only at hSw); go_simp) <;> (with_reducible rfl)
    simp only [Act.put, List.setIfInBounds_toArray, List.set_cons_zero, List.set_cons_succ]
    refine wpAnyH_take (i := 2) (oi := { dst := some 54, op := Op.load 23 (Operand.tmp 2), type := 23, pos := "law.go:29", after := #[{ on := 1, ground := Ground.guard }], guard := some (1, true) }) (v := ?_) rfl (by kernel_rfl) (by kernel_rfl) (by kernel_rfl) (fun _ _ _ h => h) (Or.inl ⟨by rfl, ?_⟩) (by assumption) ?_
    rotate_left
    · (intro w hSw; (try dsimp only at hSw); go_simp) <;> (with_reducible rfl)
    simp only [Act.put, List.setIfInBounds_toArray, List.set_cons_zero, List.set_cons_succ]
    refine wpAnyH_take (i := 5) (oi := { dst := some 57, op := Op.load 23 (Operand.tmp 2), type := 23, pos := "law.go:29", after := #[{ on := 1, ground := Ground.guard }], guard := some (1, true) }) (v := ?_) rfl (by kernel_rfl) (by kernel_rfl) (by kernel_rfl) (fun _ _ _ h => h) (Or.inl ⟨by rfl, ?_⟩) (by assumption) ?_
    rotate_left
    · (intro w hSw; (try dsimp only at hSw); go_simp) <;> (with_reducible rfl)
    simp only [Act.put, List.setIfInBounds_toArray, List.set_cons_zero, List.set_cons_succ]
    refine wpAnyH_ready (rs := [3]) (by kernel_rfl) (by simp) ?_
    refine AllReadyH.cons (o := { dst := some 55, op := Op.call { callee := Callee.value (Operand.func 16), args := #[Operand.tmp 54], argTypes := #[23] }, type := 24, pos := "law.go:29", after := #[{ on := 2, ground := Ground.data }, { on := 1, ground := Ground.chain }, { on := 1, ground := Ground.guard }], guard := some (1, true) }) rfl (fun K hK => ?_) AllReadyH.nil
    go_simp
    go_at_call 16
    refine (iCheck_any a b _).mono ?_
    rintro e w21 ⟨rfl, hG9⟩
    rw [ie_ok HV.out]
    have gq := gb.trans (G.trans (by (repeat' (first | (with_reducible exact G.refl _) | (with_reducible refine G.drewN ?_ _) | (with_reducible refine G.drew ?_) | (with_reducible refine G.alloc ?_ _)))) hG9)
    clear gb
    have gb := gq
    have y0' := gb.at y0
    have y1' := gb.at y1
    have r0' := gb.at r0
    have r1' := gb.at r1
    have v0' := gb.at v0
    have v1' := gb.at v1
    have n0' := gb.at n0
    have n1' := gb.at n1
    have x0' := gb.at x0
    have x1' := gb.at x1
    have z0' := gb.at z0
    have z1' := gb.at z1
    have q0' := gb.at q0
    have q1' := gb.at q1
    refine hK.out _ _ (by ((try dsimp only); first | (with_reducible assumption) | ((repeat' (with_reducible apply And.intro)) <;> go_simp))) (fun hH2 => ?_)
    clear hK K hH1
    refine wpAnyH_take (i := 4) (oi := { dst := some 56, op := Op.binOp BinOp.eql 24 (Operand.tmp 55) (Operand.const (Value.int IntKind.i64 0)) 24, type := 4, pos := "law.go:29", after := #[{ on := 3, ground := Ground.data }, { on := 1, ground := Ground.guard }], guard := some (1, true) }) (v := ?_) rfl (by kernel_rfl) (by kernel_rfl) (by kernel_rfl) (fun _ _ _ h => h) (Or.inl ⟨by rfl, ?_⟩) (by assumption) ?_
    rotate_left
    · (intro w hSw; (try dsimp only at hSw); go_simp) <;> (with_reducible rfl)
    simp only [Act.put, List.setIfInBounds_toArray, List.set_cons_zero, List.set_cons_succ]
    refine wpAnyH_ready (rs := [6]) (by kernel_rfl) (by simp) ?_
    refine AllReadyH.cons (o := { dst := some 58, op := Op.call { callee := Callee.value (Operand.func 17), args := #[Operand.tmp 57], argTypes := #[23] }, type := 4, pos := "law.go:29", after := #[{ on := 5, ground := Ground.data }, { on := 3, ground := Ground.chain }, { on := 1, ground := Ground.guard }], guard := some (1, true) }) rfl (fun K hK => ?_) AllReadyH.nil
    go_simp
    go_at_call 17
    refine (rIs_any a b _).mono ?_
    rintro e w22 ⟨rfl, hG9⟩
    rw [decide_eq_true HV.out]
    have gq := gb.trans (G.trans (by (repeat' (first | (with_reducible exact G.refl _) | (with_reducible refine G.drewN ?_ _) | (with_reducible refine G.drew ?_) | (with_reducible refine G.alloc ?_ _)))) hG9)
    clear gb
    have gb := gq
    have y0' := gb.at y0
    have y1' := gb.at y1
    have r0' := gb.at r0
    have r1' := gb.at r1
    have v0' := gb.at v0
    have v1' := gb.at v1
    have n0' := gb.at n0
    have n1' := gb.at n1
    have x0' := gb.at x0
    have x1' := gb.at x1
    have z0' := gb.at z0
    have z1' := gb.at z1
    have q0' := gb.at q0
    have q1' := gb.at q1
    refine hK.out _ _ (by ((try dsimp only); first | (with_reducible assumption) | ((repeat' (with_reducible apply And.intro)) <;> go_simp))) (fun hH3 => ?_)
    clear hK K hH2
    refine wpAnyH_take (i := 7) (oi := { dst := some 59, op := Op.binOp BinOp.eql 4 (Operand.tmp 56) (Operand.tmp 58) 4, type := 4, pos := "law.go:29", after := #[{ on := 4, ground := Ground.data }, { on := 6, ground := Ground.data }, { on := 1, ground := Ground.guard }], guard := some (1, true) }) (v := ?_) rfl (by kernel_rfl) (by kernel_rfl) (by kernel_rfl) (fun _ _ _ h => h) (Or.inl ⟨by rfl, ?_⟩) (by assumption) ?_
    rotate_left
    · (intro w hSw; (try dsimp only at hSw); go_simp) <;> (with_reducible rfl)
    simp only [Act.put, List.setIfInBounds_toArray, List.set_cons_zero, List.set_cons_succ]
    refine wpAnyH_take (i := 8) (oi := { dst := some 60, op := Op.pick (Operand.tmp 53) (Operand.tmp 59) (Operand.const (Value.bool false)), type := 4, pos := "law.go:29", after := #[{ on := 1, ground := Ground.data }, { on := 7, ground := Ground.data }], guard := none }) (v := ?_) rfl (by kernel_rfl) (by kernel_rfl) (by kernel_rfl) (fun _ _ _ h => h) (Or.inl ⟨by rfl, ?_⟩) (by assumption) ?_
    rotate_left
    · (intro w hSw; (try dsimp only at hSw); go_simp) <;> (with_reducible rfl)
    simp only [Act.put, List.setIfInBounds_toArray, List.set_cons_zero, List.set_cons_succ]
    refine wpAnyH_take (i := 9) (oi := { dst := some 61, op := Op.move (Operand.tmp 60), type := 4, pos := "law.go:29", after := #[{ on := 8, ground := Ground.data }, { on := 6, ground := Ground.chain }], guard := none }) (v := ?_) rfl (by kernel_rfl) (by kernel_rfl) (by kernel_rfl) (fun _ _ _ h => h) (Or.inl ⟨by rfl, ?_⟩) (by assumption) ?_
    rotate_left
    · (intro w hSw; (try dsimp only at hSw); go_simp) <;> (with_reducible rfl)
    simp only [Act.put, List.setIfInBounds_toArray, List.set_cons_zero, List.set_cons_succ]
    refine wpAnyH_take (i := 10) (oi := { dst := some 62, op := Op.load 23 (Operand.tmp 2), type := 23, pos := "law.go:29", after := #[{ on := 9, ground := Ground.guard }], guard := some (9, true) }) (v := ?_) rfl (by kernel_rfl) (by kernel_rfl) (by kernel_rfl) (fun _ _ _ h => h) (Or.inl ⟨by rfl, ?_⟩) (by assumption) ?_
    rotate_left
    · (intro w hSw; (try dsimp only at hSw); go_simp) <;> (with_reducible rfl)
    simp only [Act.put, List.setIfInBounds_toArray, List.set_cons_zero, List.set_cons_succ]
    refine wpAnyH_ready (rs := [11]) (by kernel_rfl) (by simp) ?_
    refine AllReadyH.cons (o := { dst := some 63, op := Op.call { callee := Callee.value (Operand.func 16), args := #[Operand.tmp 62], argTypes := #[23] }, type := 24, pos := "law.go:29", after := #[{ on := 10, ground := Ground.data }, { on := 9, ground := Ground.chain }, { on := 9, ground := Ground.guard }], guard := some (9, true) }) rfl (fun K hK => ?_) AllReadyH.nil
    go_simp
    go_at_call 16
    refine (iCheck_any a b _).mono ?_
    rintro e w23 ⟨rfl, hG9⟩
    rw [ie_ok HV.out]
    have gq := gb.trans (G.trans (by (repeat' (first | (with_reducible exact G.refl _) | (with_reducible refine G.drewN ?_ _) | (with_reducible refine G.drew ?_) | (with_reducible refine G.alloc ?_ _)))) hG9)
    clear gb
    have gb := gq
    have y0' := gb.at y0
    have y1' := gb.at y1
    have r0' := gb.at r0
    have r1' := gb.at r1
    have v0' := gb.at v0
    have v1' := gb.at v1
    have n0' := gb.at n0
    have n1' := gb.at n1
    have x0' := gb.at x0
    have x1' := gb.at x1
    have z0' := gb.at z0
    have z1' := gb.at z1
    have q0' := gb.at q0
    have q1' := gb.at q1
    refine hK.out _ _ (by ((try dsimp only); first | (with_reducible assumption) | ((repeat' (with_reducible apply And.intro)) <;> go_simp))) (fun hH4 => ?_)
    clear hK K hH3
    refine wpAnyH_take (i := 12) (oi := { dst := some 64, op := Op.binOp BinOp.eql 24 (Operand.tmp 63) (Operand.const (Value.int IntKind.i64 0)) 24, type := 4, pos := "law.go:29", after := #[{ on := 11, ground := Ground.data }, { on := 9, ground := Ground.guard }], guard := some (9, true) }) (v := ?_) rfl (by kernel_rfl) (by kernel_rfl) (by kernel_rfl) (fun _ _ _ h => h) (Or.inl ⟨by rfl, ?_⟩) (by assumption) ?_
    rotate_left
    · (intro w hSw; (try dsimp only at hSw); go_simp) <;> (with_reducible rfl)
    simp only [Act.put, List.setIfInBounds_toArray, List.set_cons_zero, List.set_cons_succ]
    refine wpAnyH_take (i := 13) (oi := { dst := some 65, op := Op.move (Operand.tmp 64), type := 4, pos := "law.go:29", after := #[{ on := 12, ground := Ground.data }, { on := 11, ground := Ground.chain }, { on := 9, ground := Ground.guard }], guard := some (9, true) }) (v := ?_) rfl (by kernel_rfl) (by kernel_rfl) (by kernel_rfl) (fun _ _ _ h => h) (Or.inl ⟨by rfl, ?_⟩) (by assumption) ?_
    rotate_left
    · (intro w hSw; (try dsimp only at hSw); go_simp) <;> (with_reducible rfl)
    simp only [Act.put, List.setIfInBounds_toArray, List.set_cons_zero, List.set_cons_succ]
    refine wpAnyH_take (i := 14) (oi := { dst := some 66, op := Op.load 23 (Operand.tmp 2), type := 23, pos := "law.go:29", after := #[{ on := 13, ground := Ground.guard }], guard := some (13, false) }) (v := undef) rfl (by kernel_rfl) (by kernel_rfl) (by kernel_rfl) (fun _ _ _ h => h) (Or.inr ⟨by rfl, rfl⟩) (by assumption) ?_
    simp only [Act.put, List.setIfInBounds_toArray, List.set_cons_zero, List.set_cons_succ]
    refine wpAnyH_ready (rs := [15]) (by kernel_rfl) (by simp) ?_
    refine AllReadyH.cons (o := { dst := some 67, op := Op.call { callee := Callee.value (Operand.func 16), args := #[Operand.tmp 66], argTypes := #[23] }, type := 24, pos := "law.go:29", after := #[{ on := 14, ground := Ground.data }, { on := 13, ground := Ground.chain }, { on := 13, ground := Ground.guard }], guard := some (13, false) }) rfl (fun K hK => ?_) AllReadyH.nil
    go_simp
    refine hK.out _ _ (by ((try dsimp only); first | (with_reducible assumption) | ((repeat' (with_reducible apply And.intro)) <;> go_simp))) (fun _ => ?_)
    clear hK K
    refine wpAnyH_take (i := 16) (oi := { dst := some 68, op := Op.binOp BinOp.eql 24 (Operand.tmp 67) (Operand.const (Value.int IntKind.i64 2)) 24, type := 4, pos := "law.go:29", after := #[{ on := 15, ground := Ground.data }, { on := 13, ground := Ground.guard }], guard := some (13, false) }) (v := undef) rfl (by kernel_rfl) (by kernel_rfl) (by kernel_rfl) (fun _ _ _ h => h) (Or.inr ⟨by rfl, rfl⟩) (by assumption) ?_
    simp only [Act.put, List.setIfInBounds_toArray, List.set_cons_zero, List.set_cons_succ]
    refine wpAnyH_take (i := 17) (oi := { dst := some 69, op := Op.pick (Operand.tmp 65) (Operand.const (Value.bool true)) (Operand.tmp 68), type := 4, pos := "law.go:29", after := #[{ on := 13, ground := Ground.data }, { on := 16, ground := Ground.data }, { on := 9, ground := Ground.guard }], guard := some (9, true) }) (v := ?_) rfl (by kernel_rfl) (by kernel_rfl) (by kernel_rfl) (fun _ _ _ h => h) (Or.inl ⟨by rfl, ?_⟩) (by assumption) ?_
    rotate_left
    · (intro w hSw; (try dsimp only at hSw); go_simp) <;> (with_reducible rfl)
    simp only [Act.put, List.setIfInBounds_toArray, List.set_cons_zero, List.set_cons_succ]
    refine wpAnyH_take (i := 18) (oi := { dst := some 70, op := Op.pick (Operand.tmp 61) (Operand.tmp 69) (Operand.const (Value.bool false)), type := 4, pos := "law.go:29", after := #[{ on := 9, ground := Ground.data }, { on := 17, ground := Ground.data }], guard := none }) (v := ?_) rfl (by kernel_rfl) (by kernel_rfl) (by kernel_rfl) (fun _ _ _ h => h) (Or.inl ⟨by rfl, ?_⟩) (by assumption) ?_
    rotate_left
    · (intro w hSw; (try dsimp only at hSw); go_simp) <;> (with_reducible rfl)
    simp only [Act.put, List.setIfInBounds_toArray, List.set_cons_zero, List.set_cons_succ]
    refine wpAnyH_take (i := 19) (oi := { dst := some 71, op := Op.move (Operand.tmp 70), type := 4, pos := "law.go:29", after := #[{ on := 18, ground := Ground.data }, { on := 15, ground := Ground.chain }], guard := none }) (v := ?_) rfl (by kernel_rfl) (by kernel_rfl) (by kernel_rfl) (fun _ _ _ h => h) (Or.inl ⟨by rfl, ?_⟩) (by assumption) ?_
    rotate_left
    · (intro w hSw; (try dsimp only at hSw); go_simp) <;> (with_reducible rfl)
    simp only [Act.put, List.setIfInBounds_toArray, List.set_cons_zero, List.set_cons_succ]
    refine wpAnyH_take (i := 20) (oi := { dst := some 72, op := Op.load 23 (Operand.tmp 5), type := 23, pos := "law.go:29", after := #[{ on := 19, ground := Ground.guard }], guard := some (19, true) }) (v := ?_) rfl (by kernel_rfl) (by kernel_rfl) (by kernel_rfl) (fun _ _ _ h => h) (Or.inl ⟨by rfl, ?_⟩) (by assumption) ?_
    rotate_left
    · (intro w hSw; (try dsimp only at hSw); go_simp) <;> (with_reducible rfl)
    simp only [Act.put, List.setIfInBounds_toArray, List.set_cons_zero, List.set_cons_succ]
    refine wpAnyH_take (i := 21) (oi := { dst := some 73, op := Op.load 23 (Operand.tmp 11), type := 23, pos := "law.go:29", after := #[{ on := 19, ground := Ground.guard }], guard := some (19, true) }) (v := ?_) rfl (by kernel_rfl) (by kernel_rfl) (by kernel_rfl) (fun _ _ _ h => h) (Or.inl ⟨by rfl, ?_⟩) (by assumption) ?_
    rotate_left
    · (intro w hSw; (try dsimp only at hSw); go_simp) <;> (with_reducible rfl)
    simp only [Act.put, List.setIfInBounds_toArray, List.set_cons_zero, List.set_cons_succ]
    refine wpAnyH_take (i := 22) (oi := { dst := some 74, op := Op.binOp BinOp.eql 23 (Operand.tmp 72) (Operand.tmp 73) 23, type := 4, pos := "law.go:29", after := #[{ on := 20, ground := Ground.data }, { on := 21, ground := Ground.data }, { on := 19, ground := Ground.guard }], guard := some (19, true) }) (v := ?_) rfl (by kernel_rfl) (by kernel_rfl) (by kernel_rfl) (fun _ _ _ h => h) (Or.inl ⟨by rfl, ?_⟩) (by assumption) ?_
    rotate_left
    · (intro w hSw; (try dsimp only at hSw); go_simp) <;> (with_reducible rfl)
    simp only [Act.put, List.setIfInBounds_toArray, List.set_cons_zero, List.set_cons_succ]
    refine wpAnyH_take (i := 23) (oi := { dst := some 75, op := Op.pick (Operand.tmp 71) (Operand.tmp 74) (Operand.const (Value.bool false)), type := 4, pos := "law.go:29", after := #[{ on := 19, ground := Ground.data }, { on := 22, ground := Ground.data }], guard := none }) (v := ?_) rfl (by kernel_rfl) (by kernel_rfl) (by kernel_rfl) (fun _ _ _ h => h) (Or.inl ⟨by rfl, ?_⟩) (by assumption) ?_
    rotate_left
    · (intro w hSw; (try dsimp only at hSw); go_simp) <;> (with_reducible rfl)
    simp only [Act.put, List.setIfInBounds_toArray, List.set_cons_zero, List.set_cons_succ]
    refine wpAnyH_take (i := 24) (oi := { dst := some 76, op := Op.move (Operand.tmp 75), type := 4, pos := "law.go:29", after := #[{ on := 23, ground := Ground.data }, { on := 19, ground := Ground.chain }], guard := none }) (v := ?_) rfl (by kernel_rfl) (by kernel_rfl) (by kernel_rfl) (fun _ _ _ h => h) (Or.inl ⟨by rfl, ?_⟩) (by assumption) ?_
    rotate_left
    · (intro w hSw; (try dsimp only at hSw); go_simp) <;> (with_reducible rfl)
    simp only [Act.put, List.setIfInBounds_toArray, List.set_cons_zero, List.set_cons_succ]
    refine wpAnyH_take (i := 25) (oi := { dst := some 77, op := Op.move (Operand.tmp 6), type := 24, pos := "law.go:29", after := #[{ on := 24, ground := Ground.guard }], guard := some (24, true) }) (v := ?_) rfl (by kernel_rfl) (by kernel_rfl) (by kernel_rfl) (fun _ _ _ h => h) (Or.inl ⟨by rfl, ?_⟩) (by assumption) ?_
    rotate_left
    · (intro w hSw; (try dsimp only at hSw); go_simp) <;> (with_reducible rfl)
    simp only [Act.put, List.setIfInBounds_toArray, List.set_cons_zero, List.set_cons_succ]
    refine wpAnyH_take (i := 26) (oi := { dst := some 78, op := Op.move (Operand.tmp 12), type := 24, pos := "law.go:29", after := #[{ on := 24, ground := Ground.guard }], guard := some (24, true) }) (v := ?_) rfl (by kernel_rfl) (by kernel_rfl) (by kernel_rfl) (fun _ _ _ h => h) (Or.inl ⟨by rfl, ?_⟩) (by assumption) ?_
    rotate_left
    · (intro w hSw; (try dsimp only at hSw); go_simp) <;> (with_reducible rfl)
    simp only [Act.put, List.setIfInBounds_toArray, List.set_cons_zero, List.set_cons_succ]
    refine wpAnyH_take (i := 27) (oi := { dst := some 79, op := Op.binOp BinOp.eql 24 (Operand.tmp 77) (Operand.tmp 78) 24, type := 4, pos := "law.go:29", after := #[{ on := 25, ground := Ground.data }, { on := 26, ground := Ground.data }, { on := 24, ground := Ground.guard }], guard := some (24, true) }) (v := ?_) rfl (by kernel_rfl) (by kernel_rfl) (by kernel_rfl) (fun _ _ _ h => h) (Or.inl ⟨by rfl, ?_⟩) (by assumption) ?_
    rotate_left
    · (intro w hSw; (try dsimp only at hSw); go_simp) <;> (with_reducible rfl)
    simp only [Act.put, List.setIfInBounds_toArray, List.set_cons_zero, List.set_cons_succ]
    refine wpAnyH_take (i := 28) (oi := { dst := some 80, op := Op.pick (Operand.tmp 76) (Operand.tmp 79) (Operand.const (Value.bool false)), type := 4, pos := "law.go:29", after := #[{ on := 24, ground := Ground.data }, { on := 27, ground := Ground.data }], guard := none }) (v := ?_) rfl (by kernel_rfl) (by kernel_rfl) (by kernel_rfl) (fun _ _ _ h => h) (Or.inl ⟨by rfl, ?_⟩) (by assumption) ?_
    rotate_left
    · (intro w hSw; (try dsimp only at hSw); go_simp) <;> (with_reducible rfl)
    simp only [Act.put, List.setIfInBounds_toArray, List.set_cons_zero, List.set_cons_succ]
    refine wpAnyH_take (i := 29) (oi := { dst := some 81, op := Op.move (Operand.tmp 80), type := 4, pos := "law.go:29", after := #[{ on := 28, ground := Ground.data }, { on := 24, ground := Ground.chain }], guard := none }) (v := ?_) rfl (by kernel_rfl) (by kernel_rfl) (by kernel_rfl) (fun _ _ _ h => h) (Or.inl ⟨by rfl, ?_⟩) (by assumption) ?_
    rotate_left
    · (intro w hSw; (try dsimp only at hSw); go_simp) <;> (with_reducible rfl)
    simp only [Act.put, List.setIfInBounds_toArray, List.set_cons_zero, List.set_cons_succ]
    refine wpAnyH_take (i := 30) (oi := { dst := some 82, op := Op.load 23 (Operand.tmp 7), type := 23, pos := "law.go:29", after := #[{ on := 29, ground := Ground.guard }], guard := some (29, true) }) (v := ?_) rfl (by kernel_rfl) (by kernel_rfl) (by kernel_rfl) (fun _ _ _ h => h) (Or.inl ⟨by rfl, ?_⟩) (by assumption) ?_
    rotate_left
    · (intro w hSw; (try dsimp only at hSw); go_simp) <;> (with_reducible rfl)
    simp only [Act.put, List.setIfInBounds_toArray, List.set_cons_zero, List.set_cons_succ]
    refine wpAnyH_take (i := 31) (oi := { dst := some 83, op := Op.load 23 (Operand.tmp 13), type := 23, pos := "law.go:29", after := #[{ on := 29, ground := Ground.guard }], guard := some (29, true) }) (v := ?_) rfl (by kernel_rfl) (by kernel_rfl) (by kernel_rfl) (fun _ _ _ h => h) (Or.inl ⟨by rfl, ?_⟩) (by assumption) ?_
    rotate_left
    · (intro w hSw; (try dsimp only at hSw); go_simp) <;> (with_reducible rfl)
    simp only [Act.put, List.setIfInBounds_toArray, List.set_cons_zero, List.set_cons_succ]
    refine wpAnyH_take (i := 32) (oi := { dst := some 84, op := Op.binOp BinOp.eql 23 (Operand.tmp 82) (Operand.tmp 83) 23, type := 4, pos := "law.go:29", after := #[{ on := 30, ground := Ground.data }, { on := 31, ground := Ground.data }, { on := 29, ground := Ground.guard }], guard := some (29, true) }) (v := ?_) rfl (by kernel_rfl) (by kernel_rfl) (by kernel_rfl) (fun _ _ _ h => h) (Or.inl ⟨by rfl, ?_⟩) (by assumption) ?_
    rotate_left
    · (intro w hSw; (try dsimp only at hSw); go_simp) <;> (with_reducible rfl)
    simp only [Act.put, List.setIfInBounds_toArray, List.set_cons_zero, List.set_cons_succ]
    refine wpAnyH_take (i := 33) (oi := { dst := some 85, op := Op.pick (Operand.tmp 81) (Operand.tmp 84) (Operand.const (Value.bool false)), type := 4, pos := "law.go:29", after := #[{ on := 29, ground := Ground.data }, { on := 32, ground := Ground.data }], guard := none }) (v := ?_) rfl (by kernel_rfl) (by kernel_rfl) (by kernel_rfl) (fun _ _ _ h => h) (Or.inl ⟨by rfl, ?_⟩) (by assumption) ?_
    rotate_left
    · (intro w hSw; (try dsimp only at hSw); go_simp) <;> (with_reducible rfl)
    simp only [Act.put, List.setIfInBounds_toArray, List.set_cons_zero, List.set_cons_succ]
    refine wpAnyH_take (i := 34) (oi := { dst := some 86, op := Op.move (Operand.tmp 85), type := 4, pos := "law.go:29", after := #[{ on := 33, ground := Ground.data }, { on := 29, ground := Ground.chain }], guard := none }) (v := ?_) rfl (by kernel_rfl) (by kernel_rfl) (by kernel_rfl) (fun _ _ _ h => h) (Or.inl ⟨by rfl, ?_⟩) (by assumption) ?_
    rotate_left
    · (intro w hSw; (try dsimp only at hSw); go_simp) <;> (with_reducible rfl)
    simp only [Act.put, List.setIfInBounds_toArray, List.set_cons_zero, List.set_cons_succ]
    refine wpAnyH_take (i := 35) (oi := { dst := some 87, op := Op.move (Operand.tmp 8), type := 24, pos := "law.go:29", after := #[{ on := 34, ground := Ground.guard }], guard := some (34, true) }) (v := ?_) rfl (by kernel_rfl) (by kernel_rfl) (by kernel_rfl) (fun _ _ _ h => h) (Or.inl ⟨by rfl, ?_⟩) (by assumption) ?_
    rotate_left
    · (intro w hSw; (try dsimp only at hSw); go_simp) <;> (with_reducible rfl)
    simp only [Act.put, List.setIfInBounds_toArray, List.set_cons_zero, List.set_cons_succ]
    refine wpAnyH_take (i := 36) (oi := { dst := some 88, op := Op.move (Operand.tmp 14), type := 24, pos := "law.go:29", after := #[{ on := 34, ground := Ground.guard }], guard := some (34, true) }) (v := ?_) rfl (by kernel_rfl) (by kernel_rfl) (by kernel_rfl) (fun _ _ _ h => h) (Or.inl ⟨by rfl, ?_⟩) (by assumption) ?_
    rotate_left
    · (intro w hSw; (try dsimp only at hSw); go_simp) <;> (with_reducible rfl)
    simp only [Act.put, List.setIfInBounds_toArray, List.set_cons_zero, List.set_cons_succ]
    refine wpAnyH_take (i := 37) (oi := { dst := some 89, op := Op.binOp BinOp.eql 24 (Operand.tmp 87) (Operand.tmp 88) 24, type := 4, pos := "law.go:29", after := #[{ on := 35, ground := Ground.data }, { on := 36, ground := Ground.data }, { on := 34, ground := Ground.guard }], guard := some (34, true) }) (v := ?_) rfl (by kernel_rfl) (by kernel_rfl) (by kernel_rfl) (fun _ _ _ h => h) (Or.inl ⟨by rfl, ?_⟩) (by assumption) ?_
    rotate_left
    · (intro w hSw; (try dsimp only at hSw); go_simp) <;> (with_reducible rfl)
    simp only [Act.put, List.setIfInBounds_toArray, List.set_cons_zero, List.set_cons_succ]
    refine wpAnyH_take (i := 38) (oi := { dst := some 90, op := Op.pick (Operand.tmp 86) (Operand.tmp 89) (Operand.const (Value.bool false)), type := 4, pos := "law.go:29", after := #[{ on := 34, ground := Ground.data }, { on := 37, ground := Ground.data }], guard := none }) (v := ?_) rfl (by kernel_rfl) (by kernel_rfl) (by kernel_rfl) (fun _ _ _ h => h) (Or.inl ⟨by rfl, ?_⟩) (by assumption) ?_
    rotate_left
    · (intro w hSw; (try dsimp only at hSw); go_simp) <;> (with_reducible rfl)
    simp only [Act.put, List.setIfInBounds_toArray, List.set_cons_zero, List.set_cons_succ]
    refine wpAnyH_take (i := 39) (oi := { dst := some 91, op := Op.move (Operand.tmp 90), type := 4, pos := "law.go:29", after := #[{ on := 38, ground := Ground.data }, { on := 34, ground := Ground.chain }], guard := none }) (v := ?_) rfl (by kernel_rfl) (by kernel_rfl) (by kernel_rfl) (fun _ _ _ h => h) (Or.inl ⟨by rfl, ?_⟩) (by assumption) ?_
    rotate_left
    · (intro w hSw; (try dsimp only at hSw); go_simp) <;> (with_reducible rfl)
    simp only [Act.put, List.setIfInBounds_toArray, List.set_cons_zero, List.set_cons_succ]
    refine wpAnyH_take (i := 40) (oi := { dst := some 92, op := Op.load 23 (Operand.tmp 9), type := 23, pos := "law.go:29", after := #[{ on := 39, ground := Ground.guard }], guard := some (39, true) }) (v := ?_) rfl (by kernel_rfl) (by kernel_rfl) (by kernel_rfl) (fun _ _ _ h => h) (Or.inl ⟨by rfl, ?_⟩) (by assumption) ?_
    rotate_left
    · (intro w hSw; (try dsimp only at hSw); go_simp) <;> (with_reducible rfl)
    simp only [Act.put, List.setIfInBounds_toArray, List.set_cons_zero, List.set_cons_succ]
    refine wpAnyH_take (i := 41) (oi := { dst := some 93, op := Op.load 23 (Operand.tmp 15), type := 23, pos := "law.go:29", after := #[{ on := 39, ground := Ground.guard }], guard := some (39, true) }) (v := ?_) rfl (by kernel_rfl) (by kernel_rfl) (by kernel_rfl) (fun _ _ _ h => h) (Or.inl ⟨by rfl, ?_⟩) (by assumption) ?_
    rotate_left
    · (intro w hSw; (try dsimp only at hSw); go_simp) <;> (with_reducible rfl)
    simp only [Act.put, List.setIfInBounds_toArray, List.set_cons_zero, List.set_cons_succ]
    refine wpAnyH_take (i := 42) (oi := { dst := some 94, op := Op.binOp BinOp.eql 23 (Operand.tmp 92) (Operand.tmp 93) 23, type := 4, pos := "law.go:29", after := #[{ on := 40, ground := Ground.data }, { on := 41, ground := Ground.data }, { on := 39, ground := Ground.guard }], guard := some (39, true) }) (v := ?_) rfl (by kernel_rfl) (by kernel_rfl) (by kernel_rfl) (fun _ _ _ h => h) (Or.inl ⟨by rfl, ?_⟩) (by assumption) ?_
    rotate_left
    · (intro w hSw; (try dsimp only at hSw); go_simp) <;> (with_reducible rfl)
    simp only [Act.put, List.setIfInBounds_toArray, List.set_cons_zero, List.set_cons_succ]
    refine wpAnyH_take (i := 43) (oi := { dst := some 95, op := Op.pick (Operand.tmp 91) (Operand.tmp 94) (Operand.const (Value.bool false)), type := 4, pos := "law.go:29", after := #[{ on := 39, ground := Ground.data }, { on := 42, ground := Ground.data }], guard := none }) (v := ?_) rfl (by kernel_rfl) (by kernel_rfl) (by kernel_rfl) (fun _ _ _ h => h) (Or.inl ⟨by rfl, ?_⟩) (by assumption) ?_
    rotate_left
    · (intro w hSw; (try dsimp only at hSw); go_simp) <;> (with_reducible rfl)
    simp only [Act.put, List.setIfInBounds_toArray, List.set_cons_zero, List.set_cons_succ]
    refine wpAnyH_take (i := 44) (oi := { dst := some 96, op := Op.move (Operand.tmp 95), type := 4, pos := "law.go:29", after := #[{ on := 43, ground := Ground.data }, { on := 39, ground := Ground.chain }], guard := none }) (v := ?_) rfl (by kernel_rfl) (by kernel_rfl) (by kernel_rfl) (fun _ _ _ h => h) (Or.inl ⟨by rfl, ?_⟩) (by assumption) ?_
    rotate_left
    · (intro w hSw; (try dsimp only at hSw); go_simp) <;> (with_reducible rfl)
    simp only [Act.put, List.setIfInBounds_toArray, List.set_cons_zero, List.set_cons_succ]
    refine wpAnyH_take (i := 45) (oi := { dst := some 97, op := Op.move (Operand.tmp 10), type := 24, pos := "law.go:29", after := #[{ on := 44, ground := Ground.guard }], guard := some (44, true) }) (v := ?_) rfl (by kernel_rfl) (by kernel_rfl) (by kernel_rfl) (fun _ _ _ h => h) (Or.inl ⟨by rfl, ?_⟩) (by assumption) ?_
    rotate_left
    · (intro w hSw; (try dsimp only at hSw); go_simp) <;> (with_reducible rfl)
    simp only [Act.put, List.setIfInBounds_toArray, List.set_cons_zero, List.set_cons_succ]
    refine wpAnyH_take (i := 46) (oi := { dst := some 98, op := Op.move (Operand.tmp 16), type := 24, pos := "law.go:29", after := #[{ on := 44, ground := Ground.guard }], guard := some (44, true) }) (v := ?_) rfl (by kernel_rfl) (by kernel_rfl) (by kernel_rfl) (fun _ _ _ h => h) (Or.inl ⟨by rfl, ?_⟩) (by assumption) ?_
    rotate_left
    · (intro w hSw; (try dsimp only at hSw); go_simp) <;> (with_reducible rfl)
    simp only [Act.put, List.setIfInBounds_toArray, List.set_cons_zero, List.set_cons_succ]
    refine wpAnyH_take (i := 47) (oi := { dst := some 99, op := Op.binOp BinOp.eql 24 (Operand.tmp 97) (Operand.tmp 98) 24, type := 4, pos := "law.go:29", after := #[{ on := 45, ground := Ground.data }, { on := 46, ground := Ground.data }, { on := 44, ground := Ground.guard }], guard := some (44, true) }) (v := ?_) rfl (by kernel_rfl) (by kernel_rfl) (by kernel_rfl) (fun _ _ _ h => h) (Or.inl ⟨by rfl, ?_⟩) (by assumption) ?_
    rotate_left
    · (intro w hSw; (try dsimp only at hSw); go_simp) <;> (with_reducible rfl)
    simp only [Act.put, List.setIfInBounds_toArray, List.set_cons_zero, List.set_cons_succ]
    refine wpAnyH_take (i := 48) (oi := { dst := some 100, op := Op.pick (Operand.tmp 96) (Operand.tmp 99) (Operand.const (Value.bool false)), type := 4, pos := "law.go:29", after := #[{ on := 44, ground := Ground.data }, { on := 47, ground := Ground.data }], guard := none }) (v := ?_) rfl (by kernel_rfl) (by kernel_rfl) (by kernel_rfl) (fun _ _ _ h => h) (Or.inl ⟨by rfl, ?_⟩) (by assumption) ?_
    rotate_left
    · (intro w hSw; (try dsimp only at hSw); go_simp) <;> (with_reducible rfl)
    simp only [Act.put, List.setIfInBounds_toArray, List.set_cons_zero, List.set_cons_succ]
    refine wpAnyH_take (i := 49) (oi := { dst := some 4, op := Op.assign (Operand.tmp 100), type := 4, pos := "law.go:29", after := #[{ on := 48, ground := Ground.data }, { on := 44, ground := Ground.chain }, { on := 0, ground := Ground.phase }, { on := 1, ground := Ground.phase }, { on := 2, ground := Ground.phase }, { on := 3, ground := Ground.phase }, { on := 4, ground := Ground.phase }, { on := 5, ground := Ground.phase }, { on := 6, ground := Ground.phase }, { on := 7, ground := Ground.phase }, { on := 8, ground := Ground.phase }, { on := 9, ground := Ground.phase }, { on := 10, ground := Ground.phase }, { on := 11, ground := Ground.phase }, { on := 12, ground := Ground.phase }, { on := 13, ground := Ground.phase }, { on := 14, ground := Ground.phase }, { on := 15, ground := Ground.phase }, { on := 16, ground := Ground.phase }, { on := 17, ground := Ground.phase }, { on := 18, ground := Ground.phase }, { on := 19, ground := Ground.phase }, { on := 20, ground := Ground.phase }, { on := 21, ground := Ground.phase }, { on := 22, ground := Ground.phase }, { on := 23, ground := Ground.phase }, { on := 24, ground := Ground.phase }, { on := 25, ground := Ground.phase }, { on := 26, ground := Ground.phase }, { on := 27, ground := Ground.phase }, { on := 28, ground := Ground.phase }, { on := 29, ground := Ground.phase }, { on := 30, ground := Ground.phase }, { on := 31, ground := Ground.phase }, { on := 32, ground := Ground.phase }, { on := 33, ground := Ground.phase }, { on := 34, ground := Ground.phase }, { on := 35, ground := Ground.phase }, { on := 36, ground := Ground.phase }, { on := 37, ground := Ground.phase }, { on := 38, ground := Ground.phase }, { on := 39, ground := Ground.phase }, { on := 40, ground := Ground.phase }, { on := 41, ground := Ground.phase }, { on := 42, ground := Ground.phase }, { on := 43, ground := Ground.phase }, { on := 44, ground := Ground.phase }, { on := 45, ground := Ground.phase }, { on := 46, ground := Ground.phase }, { on := 47, ground := Ground.phase }, { on := 48, ground := Ground.phase }], guard := none }) (v := ?_) rfl (by kernel_rfl) (by kernel_rfl) (by kernel_rfl) (fun _ _ _ h => h) (Or.inl ⟨by rfl, ?_⟩) (by assumption) ?_
    rotate_left
    · (intro w hSw; (try dsimp only at hSw); go_simp) <;> (with_reducible rfl)
    simp only [Act.put, List.setIfInBounds_toArray, List.set_cons_zero, List.set_cons_succ]
    refine wpAnyH_done (by kernel_rfl) ?_ _
    go_wp2_with fail
    go_ret
    exact ⟨by first | rfl | simp, by (repeat' (first | (with_reducible exact G.refl _) | (with_reducible assumption) | (with_reducible refine G.drewN ?_ _) | (with_reducible refine G.drew ?_) | (with_reducible refine G.alloc ?_ _) | (with_reducible refine G.setCell ?_ (by first | (with_reducible exact Nat.le_refl _) | (simp; done) | (simp; omega) | omega) _) | (with_reducible refine G.trans ?_ (by assumption))))⟩
  · have HV := Lib.hid h
    clear h
    go_region_held3 (fun w' => w'.cell? ⟨w.heap.size, 0, none⟩ = some (.int .i64 a) ∧ w'.cell? ⟨w.heap.size, 1, none⟩ = some (.int .i64 b) ∧ w'.cell? ⟨w1.heap.size, 0, none⟩ = some (.int .i64 A1) ∧ w'.cell? ⟨w1.heap.size, 1, none⟩ = some (.int .i64 A2) ∧ w'.cell? ⟨w2.heap.size, 0, none⟩ = some (.int .i64 S1) ∧ w'.cell? ⟨w2.heap.size, 1, none⟩ = some (.int .i64 S2) ∧ w'.cell? ⟨w3.heap.size, 0, none⟩ = some (.int .i64 N1) ∧ w'.cell? ⟨w3.heap.size, 1, none⟩ = some (.int .i64 N2) ∧ w'.cell? ⟨w4.heap.size, 0, none⟩ = some (.int .i64 A1) ∧ w'.cell? ⟨w4.heap.size, 1, none⟩ = some (.int .i64 A2) ∧ w'.cell? ⟨w5.heap.size, 0, none⟩ = some (.int .i64 S1) ∧ w'.cell? ⟨w5.heap.size, 1, none⟩ = some (.int .i64 S2) ∧ w'.cell? ⟨w6.heap.size, 0, none⟩ = some (.int .i64 N1) ∧ w'.cell? ⟨w6.heap.size, 1, none⟩ = some (.int .i64 N2))
      (first | (with_reducible assumption) | ((try dsimp only); (repeat' (with_reducible apply And.intro)) <;> go_simp))
      (first | (go_at_call 15; refine (known_any _ (HT.out.later (gw.trans (by (repeat' (first | (with_reducible exact G.refl _) | (with_reducible assumption) | (with_reducible refine G.drewN ?_ _) | (with_reducible refine G.drew ?_) | (with_reducible refine G.alloc ?_ _) | (with_reducible refine G.setCell ?_ (by first | (with_reducible exact Nat.le_refl _) | (simp; done) | (simp; omega) | omega) _) | (with_reducible refine G.trans ?_ (by assumption)))))))).mono ?_; rintro e w9 ⟨rfl, hG9⟩; have gq := gb.trans (G.trans (by (repeat' (first | (with_reducible exact G.refl _) | (with_reducible refine G.drewN ?_ _) | (with_reducible refine G.drew ?_) | (with_reducible refine G.alloc ?_ _)))) hG9); clear gb; have gb := gq; have y0' := gb.at y0; have y1' := gb.at y1; have r0' := gb.at r0; have r1' := gb.at r1; have v0' := gb.at v0; have v1' := gb.at v1; have n0' := gb.at n0; have n1' := gb.at n1; have x0' := gb.at x0; have x1' := gb.at x1; have z0' := gb.at z0; have z1' := gb.at z1; have q0' := gb.at q0; have q1' := gb.at q1) | (go_at_call 16; refine (iCheck_any a b _).mono ?_; rintro e w9 ⟨rfl, hG9⟩; rw [ie_bad HV.out]; have gq := gb.trans (G.trans (by (repeat' (first | (with_reducible exact G.refl _) | (with_reducible refine G.drewN ?_ _) | (with_reducible refine G.drew ?_) | (with_reducible refine G.alloc ?_ _)))) hG9); clear gb; have gb := gq; have y0' := gb.at y0; have y1' := gb.at y1; have r0' := gb.at r0; have r1' := gb.at r1; have v0' := gb.at v0; have v1' := gb.at v1; have n0' := gb.at n0; have n1' := gb.at n1; have x0' := gb.at x0; have x1' := gb.at x1; have z0' := gb.at z0; have z1' := gb.at z1; have q0' := gb.at q0; have q1' := gb.at q1) | (go_at_call 17; refine (rIs_any a b _).mono ?_; rintro e w9 ⟨rfl, hG9⟩; rw [decide_eq_false HV.out]; have gq := gb.trans (G.trans (by (repeat' (first | (with_reducible exact G.refl _) | (with_reducible refine G.drewN ?_ _) | (with_reducible refine G.drew ?_) | (with_reducible refine G.alloc ?_ _)))) hG9); clear gb; have gb := gq; have y0' := gb.at y0; have y1' := gb.at y1; have r0' := gb.at r0; have r1' := gb.at r1; have v0' := gb.at v0; have v1' := gb.at v1; have n0' := gb.at n0; have n1' := gb.at n1; have x0' := gb.at x0; have x1' := gb.at x1; have z0' := gb.at z0; have z1' := gb.at z1; have q0' := gb.at q0; have q1' := gb.at q1))
    all_goals
      go_wp2_with fail
      go_ret
      exact ⟨by first | rfl | simp, by (repeat' (first | (with_reducible exact G.refl _) | (with_reducible assumption) | (with_reducible refine G.drewN ?_ _) | (with_reducible refine G.drew ?_) | (with_reducible refine G.alloc ?_ _) | (with_reducible refine G.setCell ?_ (by first | (with_reducible exact Nat.le_refl _) | (simp; done) | (simp; omega) | omega) _) | (with_reducible refine G.trans ?_ (by assumption))))⟩

/-! ### the row and the card -/
open Go.ChangeShapes Go.WideShapes Go.ChangeAt Go.RowKit
set_option maxRecDepth 100000 in
theorem intervalAdds_lifted (os : Os) (started : os.Started) (H : Type) (enc : TypeId × Value → H) :
    ReturnsInHanded {} Tryd.checked os 3 .any (fun w args => (Rows.intervalAddsSpec.pre enc Tryd.prog Tryd.f3 [] false w args ∧ laidMetH Tryd.prog laidL w) ∧ sizedMet enc Tryd.prog Tryd.f3 (OpenSpec.ofChange Rows.intervalAddsSpec) false w args)
      (Rows.intervalAddsSpec.post enc Tryd.prog Tryd.f3 false true false false) := by
  refine returnsInHanded_of_change_and (C := Tryd.checked) (X := fun w _ => laidMetH Tryd.prog laidL w) (fun _ _ _ hh h => h.of_heap hh) own started (by kernel_rfl) Tryd.func3
    (ChangeSpec.witness_shaped (enc := enc) (C := Tryd.checked) (os := os) (X := fun w _ => laidMetH Tryd.prog laidL w) false (World.laidAll Tryd.prog os laidL) #[.agg #[.int .i64 0, .int .i64 0], .agg #[.int .i64 0, .int .i64 0]] 8 (World.laidAll_os _ _ _) (shapedL os) (by kernel_rfl) (by kernel_rfl) (by kernel_rfl) (laid_met os _)) ?_
  intro W base args ds gs before hval0 hW _ _ hL _
  have hval : ∀ (j : Nat) t v, Tryd.f3.params[j]? = some t → args[j]? = some v → Value.okWide Tryd.prog W .any base t v := hval0
  have hW' := hW
  obtain ⟨p, q, hA0, hV, rfl, hfz, hnd⟩ := hW
  have hA : DataW.TrodAll enc Tryd.prog W 0 (fun _ => true) true Tryd.f3.params.toList args.toList ds p := hA0
  rw [Tryd.params3] at hA hval
  obtain ⟨v0, vs0, d0, ds0, p0, q0, hargs, rfl, rfl, h0, r0⟩ := trodAll_cons hA
  obtain ⟨v1, vs1, d1, ds1, p1, q1, rfl, rfl, rfl, h1, r1⟩ := trodAll_cons r0
  obtain ⟨rfl, rfl, rfl⟩ := trodAll_nil r1
  obtain rfl : args = #[v0, v1] := by cases args; simp_all
  obtain ⟨rfl, rfl⟩ := trodVars_none hV
  obtain ⟨a0, b0, rfl, rfl, rfl, w0, u0⟩ := open_iv (hval 0 23 v0 rfl rfl) h0
  obtain ⟨bl0, bh0⟩ := bounds_i64 w0
  obtain ⟨cl0, ch0⟩ := bounds_i64 u0
  obtain ⟨a1, b1, rfl, rfl, rfl, w1, u1⟩ := open_iv (hval 1 23 v1 rfl rfl) h1
  obtain ⟨bl1, bh1⟩ := bounds_i64 w1
  obtain ⟨cl1, ch1⟩ := bounds_i64 u1
  clear hA0 hval0
  simp only [List.append_nil] at hW'
  refine (adds_walk a0 b0 a1 b1 W bl0 bh0 cl0 ch0 bl1 bh1 cl1 ch1  (tab_of_laid hL)).mono fun e W' ⟨he, hg⟩ => ?_
  subst he
  exact ⟨_, rfl, _, _, _, [], [], [], hW', (trodAll_cons_mk (shut_bool Tryd.underlying4 _) trodAll_mk0), (trodAll_cons_mk (shut_iv w0 u0) (trodAll_cons_mk (shut_iv w1 u1) trodAll_mk0)), rfl, Below.frame hg _, fun h => by cases h⟩

theorem intervalAdds_holds : Rows.IntervalAddsSaid :=
  OpenClaim.holds_of_wide 3 Tryd.f3 rfl rfl rfl rfl rfl rfl rfl ⟨rfl, rfl, rfl, rfl, rfl⟩ rfl rfl rfl rfl rfl (by kernel_rfl) Tryd.func3 (by kernel_rfl)
    (of_decide_eq_true (by kernel_rfl)) (by unfold Func.isWrapper; first | (rw [if_pos (by decide +kernel)]; kernel_rfl) | (rw [if_neg (by decide +kernel)]; exact ⟨rfl, rfl⟩))
    (fun os started H enc _ => intervalAdds_lifted os started H enc)

theorem intervalAdds_card : Rows.IntervalAddsCardSaid :=
  Claim7.holds_tied_plain_at .later [] [.data, .data, .data, .data, .data] true (true, "07eaf8fc6e67b9a0961191b344b017356c7addb51c8f341747d9d4082577b353") false
    intervalAdds_holds (fun _ h => by cases h) (by kernel_rfl) (fun _ h => by cases h) intervalAdds_row_tie rfl ⟨rfl, rfl⟩ (by kernel_rfl) rfl
    (fun f fn hf hfn => by
      obtain rfl : f = 3 := Option.some.inj ((show Tryd.prog.funcNamed "hemiola/hemiolalaw06.IntervalAdds" = some 3 by kernel_rfl).symm.trans hf) |>.symm
      obtain rfl : fn = Tryd.f3 := (Option.some.inj (Tryd.func3.symm.trans hfn)).symm
      exact ⟨by kernel_rfl, fun j t ht => by
        rw [Tryd.params3] at ht
        have hm : t ∈ [23, 23] := by simpa using Array.mem_of_getElem? ht
        have hall : ([23, 23].all fun u => !Tryd.prog.wantsStandIn u) = true := by kernel_rfl
        exact (show Tryd.prog.wantsStandIn t = false by simpa using List.all_eq_true.1 hall t hm)⟩)
    (by kernel_rfl)
#print axioms intervalAdds_card
end Go.Proofs.YtdpidcmalcfjaaaDoor
