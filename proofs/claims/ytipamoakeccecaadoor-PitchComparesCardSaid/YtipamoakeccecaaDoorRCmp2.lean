import Derived.Test.YtipamoakeccecaaDoorRCmp
/-! The reference's Compare, walked. -/
namespace Go.Proofs.YtipamoakeccecaaDoor
open Go.RowKit
attribute [local go_sem] World.cell?_alloc_some frozen_old

/-- two blocks of two cells made behind two of three, in a later world -/
theorem z1 {w w6 : World} {a b c x y z p q : Value} {t : TypeId} {u : TypeId} (h : G ((((w.alloc (.cells #[a, b, c] t)).alloc (.cells #[x, y, z] t)).drew).alloc (.cells #[p, q] u)) w6) : B2 w6 (w.heap.size + 1 + 1) p q := by
  have k := B2.new (((w.alloc (.cells #[a, b, c] t)).alloc (.cells #[x, y, z] t)).drew) p q u
  rw [show (((w.alloc (.cells #[a, b, c] t)).alloc (.cells #[x, y, z] t)).drew).heap.size = w.heap.size + 1 + 1 by simp [World.drew]] at k
  exact k.later h
theorem z2 {w w6 : World} {a b c x y z p q : Value} {t : TypeId} {u : TypeId} (h : G (((((w.alloc (.cells #[a, b, c] t)).alloc (.cells #[x, y, z] t)).drew).alloc (.cells #[p, q] u)).alloc (.cells #[p, q] u)) w6) : B2 w6 (w.heap.size + 1 + 1) p q ∧ B2 w6 (w.heap.size + 1 + 1 + 1) p q := by
  have k := B2.new ((((w.alloc (.cells #[a, b, c] t)).alloc (.cells #[x, y, z] t)).drew).alloc (.cells #[p, q] u)) p q u
  rw [show ((((w.alloc (.cells #[a, b, c] t)).alloc (.cells #[x, y, z] t)).drew).alloc (.cells #[p, q] u)).heap.size = w.heap.size + 1 + 1 + 1 by simp [World.drew]] at k
  exact ⟨z1 ((G.alloc (G.refl _) _).trans h), k.later h⟩
theorem y1 {w6 w7 : World} {p q : Value} {u : TypeId} (h : G (w6.alloc (.cells #[p, q] u)) w7) : B2 w7 w6.heap.size p q := (B2.new w6 p q u).later h
theorem y2 {w6 w7 : World} {p q : Value} {u : TypeId} (h : G ((w6.alloc (.cells #[p, q] u)).alloc (.cells #[p, q] u)) w7) : B2 w7 w6.heap.size p q ∧ B2 w7 (w6.heap.size + 1) p q := by
  have k := B2.new (w6.alloc (.cells #[p, q] u)) p q u
  rw [show (w6.alloc (.cells #[p, q] u)).heap.size = w6.heap.size + 1 by simp] at k
  exact ⟨y1 ((G.alloc (G.refl _) _).trans h), k.later h⟩

theorem B2.set0 {w : World} {g : Nat} (h : B2 w g (.int .i64 0) (.int .i64 0)) (u v : Value) : B2 ((w.setCell ⟨g, 0, none⟩ u).setCell ⟨g, 1, none⟩ v) g u v := B2.set h u v
theorem B2.other0 {w : World} {g j : Nat} {p q : Value} (h : B2 w g p q) (k : B2 w j (.int .i64 0) (.int .i64 0)) (hne : g ≠ j) (u v : Value) : B2 ((w.setCell ⟨j, 0, none⟩ u).setCell ⟨j, 1, none⟩ v) g p q := B2.other h k hne u v

set_option maxRecDepth 100000 in
set_option maxHeartbeats 40000000 in
theorem rCompare_any (s a o x b c : Int) (w : World) :
    Calls Tryd.prog 6 #[.agg #[.int .i64 s, .int .i64 a, .int .i64 o], .agg #[.int .i64 x, .int .i64 b, .int .i64 c]] w fun e w' => e = .returned (.int .i64 (lex (k1 s a o) (k2 s a o) (k1 x b c) (k2 x b c))) ∧ G w w' := by
  obtain ⟨m, hm⟩ : ∃ z : Int, Hid (z = k1 s a o) := ⟨_, rfl⟩
  obtain ⟨d, hd⟩ : ∃ z : Int, Hid (z = k2 s a o) := ⟨_, rfl⟩
  obtain ⟨n, hn⟩ : ∃ z : Int, Hid (z = k1 x b c) := ⟨_, rfl⟩
  obtain ⟨r, hr⟩ : ∃ z : Int, Hid (z = k2 x b c) := ⟨_, rfl⟩
  rw [← hm.out, ← hd.out, ← hn.out, ← hr.out]
  obtain ⟨R, hR⟩ : ∃ z : Int, Hid (z = lex m d n r) := ⟨_, rfl⟩
  rw [← hR.out]
  go_enter Tryd.func6, Tryd.ntmps6
  go_upto_region 1 with fail
  go_cut [5, 6] (fun s5 s6 wx => ∃ p q : Nat, s5 = .pointer (some ⟨p, 0, none⟩) ∧ s6 = .pointer (some ⟨q, 0, none⟩) ∧ B2 wx p (.int .i64 m) (.int .i64 d) ∧ B2 wx q (.int .i64 n) (.int .i64 r) ∧ G ((w.alloc (.cells #[.int .i64 s, .int .i64 a, .int .i64 o] 23)).alloc (.cells #[.int .i64 x, .int .i64 b, .int .i64 c] 23)) wx)
  case first =>
    go_region_held3 (fun w' => w'.cell? ⟨w.heap.size, 0, none⟩ = some (.int .i64 s) ∧ w'.cell? ⟨w.heap.size, 1, none⟩ = some (.int .i64 a) ∧ w'.cell? ⟨w.heap.size, 2, none⟩ = some (.int .i64 o) ∧ w'.cell? ⟨w.heap.size + 1, 0, none⟩ = some (.int .i64 x) ∧ w'.cell? ⟨w.heap.size + 1, 1, none⟩ = some (.int .i64 b) ∧ w'.cell? ⟨w.heap.size + 1, 2, none⟩ = some (.int .i64 c))
      (first | (with_reducible assumption) | ((try dsimp only); (repeat' (with_reducible apply And.intro)) <;> go_simp))
      (first | (have s6 := hG6.size; go_at_call 16; refine (key_any _ _ _ _).mono ?_; rintro e w7 ⟨rfl, hG7⟩; rw [← hn.out, ← hr.out]; have h67 : G w6 w7 := G.trans (by (repeat' (first | (with_reducible exact G.refl _) | (with_reducible refine G.drewN ?_ _) | (with_reducible refine G.drew ?_) | (with_reducible refine G.alloc ?_ _)))) hG7; have g7 := g6.trans h67; obtain ⟨d0, d1, d2, d3, d4, d5⟩ := six_later g7; have s7' : w.heap.size + 1 < w7.heap.size := cell_lt d3; have r0 : w.heap.size ≠ w7.heap.size := Nat.ne_of_lt (cell_lt d0); have r1 : w.heap.size + 1 ≠ w7.heap.size := Nat.ne_of_lt (cell_lt d3); have r2 : w.heap.size ≠ w7.heap.size + 1 := Nat.ne_of_lt (Nat.lt_succ_of_lt (cell_lt d0)); have r2' := r2.symm; have r0' := r0.symm; have r1' := r1.symm; (first | (have E0 := B2.later e0 h67; obtain ⟨a0, a1, a2, a3⟩ := id E0; have l0 := E0.lt; have n0 : w.heap.size + 1 + 1 ≠ w7.heap.size := Nat.ne_of_lt l0; have n1 : w.heap.size + 1 + 1 ≠ w6.heap.size := Nat.ne_of_lt e0.lt; have n0' := n0.symm; have n1' := n1.symm) | skip); (first | (have E1 := B2.later e1 h67; obtain ⟨b0, b1, b2, b3⟩ := id E1; have l1 := E1.lt) | skip); (first | (have E23 := y2 hG7; obtain ⟨E2, E3⟩ := E23; obtain ⟨f0, f1, f2, f3⟩ := id E2; obtain ⟨g0, g1, g2, g3⟩ := id E3; have l2 := E2.lt; have l3 := E3.lt) | (have E2 := y1 hG7; obtain ⟨f0, f1, f2, f3⟩ := id E2; have l2 := E2.lt; have n2 : w6.heap.size ≠ w7.heap.size := Nat.ne_of_lt l2; have n2' := n2.symm) | skip)) | (go_at_call 16; refine (key_any _ _ _ _).mono ?_; rintro e w6 ⟨rfl, hG6⟩; rw [← hm.out, ← hd.out]; have g6 := G.trans (a := ((w.alloc (.cells #[.int .i64 s, .int .i64 a, .int .i64 o] 23)).alloc (.cells #[.int .i64 x, .int .i64 b, .int .i64 c] 23))) (by (repeat' (first | (with_reducible exact G.refl _) | (with_reducible refine G.drewN ?_ _) | (with_reducible refine G.drew ?_) | (with_reducible refine G.alloc ?_ _)))) hG6; obtain ⟨d0, d1, d2, d3, d4, d5⟩ := six_later g6; have s6' : w.heap.size + 1 < w6.heap.size := cell_lt d3; have k0 : w.heap.size ≠ w6.heap.size := Nat.ne_of_lt (cell_lt d0); have k1 : w.heap.size + 1 ≠ w6.heap.size := Nat.ne_of_lt (cell_lt d3); have k2 : w.heap.size ≠ w6.heap.size + 1 := Nat.ne_of_lt (Nat.lt_succ_of_lt (cell_lt d0)); have k2' := k2.symm; have k0' := k0.symm; have k1' := k1.symm; (first | (have e01 := z2 hG6; obtain ⟨e0, e1⟩ := e01) | (have e0 := z1 hG6) | skip)))
    all_goals
      go_wp2_with fail
      go_meet
      refine ⟨_, _, rfl, rfl, ?_, ?_, ?_⟩
      · (repeat' (first | (with_reducible assumption) | (with_reducible refine B2.set0 ?_ _ _) | (with_reducible refine B2.other0 ?_ ?_ ?_ _ _) | (with_reducible refine B2.new' ?_; first | (with_reducible rfl) | (simp; done)) | (with_reducible refine B2.alloc ?_ _) | (with_reducible refine B2.drew ?_) | (simp; done) | omega))
      · (repeat' (first | (with_reducible assumption) | (with_reducible refine B2.set0 ?_ _ _) | (with_reducible refine B2.other0 ?_ ?_ ?_ _ _) | (with_reducible refine B2.new' ?_; first | (with_reducible rfl) | (simp; done)) | (with_reducible refine B2.alloc ?_ _) | (with_reducible refine B2.drew ?_) | (simp; done) | omega))
      · (repeat' (first | (with_reducible exact G.refl _) | (with_reducible assumption) | (with_reducible refine G.drewN ?_ _) | (with_reducible refine G.drew ?_) | (with_reducible refine G.alloc ?_ _) | (with_reducible refine G.setCell ?_ (by first | (with_reducible exact Nat.le_refl _) | (simp; done) | (simp; omega) | omega) _) | (with_reducible refine G.trans ?_ (by assumption))))
  case rest =>
    obtain ⟨p, q, rfl, rfl, ⟨hp0, hp1, _⟩, ⟨hq0, hq1, _⟩, hG⟩ := hcut
    have gw := G.trans (a := w) (by (repeat' (first | (with_reducible exact G.refl _) | (with_reducible refine G.drewN ?_ _) | (with_reducible refine G.drew ?_) | (with_reducible refine G.alloc ?_ _)))) hG
    clear hG
    go_wp2_with fail
    go_loopg [7] 2 (fun g k wr => G w wr ∧ wr.cell? ⟨p, 0, none⟩ = some (.int .i64 m) ∧ wr.cell? ⟨p, 1, none⟩ = some (.int .i64 d) ∧ wr.cell? ⟨q, 0, none⟩ = some (.int .i64 n) ∧ wr.cell? ⟨q, 1, none⟩ = some (.int .i64 r) ∧ ((k = .int .i64 0 ∧ g = 2) ∨ (k = .int .i64 1 ∧ g = 1 ∧ m = n) ∨ (k = .int .i64 2 ∧ g = 0 ∧ m = n ∧ d = r)))
    case atStart => exact ⟨gw, hp0, hp1, hq0, hq1, .inl ⟨rfl, rfl⟩⟩
    case round =>
      clear hp0 hp1 hq0 hq1 gw
      obtain ⟨gw, hp0, hp1, hq0, hq1, ⟨rfl, rfl⟩ | ⟨rfl, rfl, hmn⟩ | ⟨rfl, rfl, hmn, hdr⟩⟩ := hrel
      · rcases Int.lt_trichotomy m n with h | h | h
        · have HR := Lib.hid (show R = -1 by rw [hR.out]; have := lex_cases m d n r; omega)
          go_wp2_with fail
          go_region_held3 (fun w' => w'.cell? ⟨p, 0, none⟩ = some (.int .i64 m) ∧ w'.cell? ⟨q, 0, none⟩ = some (.int .i64 n))
            (first | (with_reducible assumption) | ((try dsimp only); (repeat' (with_reducible apply And.intro)) <;> go_simp))
            (fail)
          go_wp2_with fail
          go_ret
          exact ⟨ret_int HR.out.symm, by (repeat' (first | (with_reducible exact G.refl _) | (with_reducible assumption) | (with_reducible refine G.drewN ?_ _) | (with_reducible refine G.drew ?_) | (with_reducible refine G.alloc ?_ _) | (with_reducible refine G.setCell ?_ (by first | (with_reducible exact Nat.le_refl _) | (simp; done) | (simp; omega) | omega) _) | (with_reducible refine G.trans ?_ (by assumption))))⟩
        · have HH := Lib.hid h
          have h1 : ¬ m < n := by omega
          have h2 : ¬ n < m := by omega
          clear h
          go_wp2_with fail
          go_region_held3 (fun w' => w'.cell? ⟨p, 0, none⟩ = some (.int .i64 m) ∧ w'.cell? ⟨q, 0, none⟩ = some (.int .i64 n))
            (first | (with_reducible assumption) | ((try dsimp only); (repeat' (with_reducible apply And.intro)) <;> go_simp))
            (fail)
          go_wp2_with fail
          go_region_held3 (fun w' => w'.cell? ⟨p, 0, none⟩ = some (.int .i64 m) ∧ w'.cell? ⟨q, 0, none⟩ = some (.int .i64 n))
            (first | (with_reducible assumption) | ((try dsimp only); (repeat' (with_reducible apply And.intro)) <;> go_simp))
            (fail)
          go_wp2_with fail
          go_roundg 1
          case measure => omega
          case rel => exact ⟨by (repeat' (first | (with_reducible exact G.refl _) | (with_reducible assumption) | (with_reducible refine G.drewN ?_ _) | (with_reducible refine G.drew ?_) | (with_reducible refine G.alloc ?_ _) | (with_reducible refine G.setCell ?_ (by first | (with_reducible exact Nat.le_refl _) | (simp; done) | (simp; omega) | omega) _) | (with_reducible refine G.trans ?_ (by assumption)))), by go_cell, by go_cell, by go_cell, by go_cell, .inr (.inl ⟨rfl, rfl, HH.out⟩)⟩
        · have HR := Lib.hid (show R = 1 by rw [hR.out]; have := lex_cases m d n r; omega)
          have h1 : ¬ m < n := by omega
          go_wp2_with fail
          go_region_held3 (fun w' => w'.cell? ⟨p, 0, none⟩ = some (.int .i64 m) ∧ w'.cell? ⟨q, 0, none⟩ = some (.int .i64 n))
            (first | (with_reducible assumption) | ((try dsimp only); (repeat' (with_reducible apply And.intro)) <;> go_simp))
            (fail)
          go_wp2_with fail
          go_region_held3 (fun w' => w'.cell? ⟨p, 0, none⟩ = some (.int .i64 m) ∧ w'.cell? ⟨q, 0, none⟩ = some (.int .i64 n))
            (first | (with_reducible assumption) | ((try dsimp only); (repeat' (with_reducible apply And.intro)) <;> go_simp))
            (fail)
          go_wp2_with fail
          go_ret
          exact ⟨ret_int HR.out.symm, by (repeat' (first | (with_reducible exact G.refl _) | (with_reducible assumption) | (with_reducible refine G.drewN ?_ _) | (with_reducible refine G.drew ?_) | (with_reducible refine G.alloc ?_ _) | (with_reducible refine G.setCell ?_ (by first | (with_reducible exact Nat.le_refl _) | (simp; done) | (simp; omega) | omega) _) | (with_reducible refine G.trans ?_ (by assumption))))⟩
      · rcases Int.lt_trichotomy d r with h | h | h
        · have HR := Lib.hid (show R = -1 by rw [hR.out]; have := lex_cases m d n r; omega)
          go_wp2_with fail
          go_region_held3 (fun w' => w'.cell? ⟨p, 1, none⟩ = some (.int .i64 d) ∧ w'.cell? ⟨q, 1, none⟩ = some (.int .i64 r))
            (first | (with_reducible assumption) | ((try dsimp only); (repeat' (with_reducible apply And.intro)) <;> go_simp))
            (fail)
          go_wp2_with fail
          go_ret
          exact ⟨ret_int HR.out.symm, by (repeat' (first | (with_reducible exact G.refl _) | (with_reducible assumption) | (with_reducible refine G.drewN ?_ _) | (with_reducible refine G.drew ?_) | (with_reducible refine G.alloc ?_ _) | (with_reducible refine G.setCell ?_ (by first | (with_reducible exact Nat.le_refl _) | (simp; done) | (simp; omega) | omega) _) | (with_reducible refine G.trans ?_ (by assumption))))⟩
        · have HH := Lib.hid h
          have h1 : ¬ d < r := by omega
          have h2 : ¬ r < d := by omega
          clear h
          go_wp2_with fail
          go_region_held3 (fun w' => w'.cell? ⟨p, 1, none⟩ = some (.int .i64 d) ∧ w'.cell? ⟨q, 1, none⟩ = some (.int .i64 r))
            (first | (with_reducible assumption) | ((try dsimp only); (repeat' (with_reducible apply And.intro)) <;> go_simp))
            (fail)
          go_wp2_with fail
          go_region_held3 (fun w' => w'.cell? ⟨p, 1, none⟩ = some (.int .i64 d) ∧ w'.cell? ⟨q, 1, none⟩ = some (.int .i64 r))
            (first | (with_reducible assumption) | ((try dsimp only); (repeat' (with_reducible apply And.intro)) <;> go_simp))
            (fail)
          go_wp2_with fail
          go_roundg 0
          case measure => omega
          case rel => exact ⟨by (repeat' (first | (with_reducible exact G.refl _) | (with_reducible assumption) | (with_reducible refine G.drewN ?_ _) | (with_reducible refine G.drew ?_) | (with_reducible refine G.alloc ?_ _) | (with_reducible refine G.setCell ?_ (by first | (with_reducible exact Nat.le_refl _) | (simp; done) | (simp; omega) | omega) _) | (with_reducible refine G.trans ?_ (by assumption)))), by go_cell, by go_cell, by go_cell, by go_cell, .inr (.inr ⟨rfl, rfl, hmn, HH.out⟩)⟩
        · have HR := Lib.hid (show R = 1 by rw [hR.out]; have := lex_cases m d n r; omega)
          have h1 : ¬ d < r := by omega
          go_wp2_with fail
          go_region_held3 (fun w' => w'.cell? ⟨p, 1, none⟩ = some (.int .i64 d) ∧ w'.cell? ⟨q, 1, none⟩ = some (.int .i64 r))
            (first | (with_reducible assumption) | ((try dsimp only); (repeat' (with_reducible apply And.intro)) <;> go_simp))
            (fail)
          go_wp2_with fail
          go_region_held3 (fun w' => w'.cell? ⟨p, 1, none⟩ = some (.int .i64 d) ∧ w'.cell? ⟨q, 1, none⟩ = some (.int .i64 r))
            (first | (with_reducible assumption) | ((try dsimp only); (repeat' (with_reducible apply And.intro)) <;> go_simp))
            (fail)
          go_wp2_with fail
          go_ret
          exact ⟨ret_int HR.out.symm, by (repeat' (first | (with_reducible exact G.refl _) | (with_reducible assumption) | (with_reducible refine G.drewN ?_ _) | (with_reducible refine G.drew ?_) | (with_reducible refine G.alloc ?_ _) | (with_reducible refine G.setCell ?_ (by first | (with_reducible exact Nat.le_refl _) | (simp; done) | (simp; omega) | omega) _) | (with_reducible refine G.trans ?_ (by assumption))))⟩
      · have HR := Lib.hid (show R = 0 by rw [hR.out]; have := lex_cases m d n r; omega)
        go_wp2_with fail
        go_ret
        exact ⟨ret_int HR.out.symm, by (repeat' (first | (with_reducible exact G.refl _) | (with_reducible assumption) | (with_reducible refine G.drewN ?_ _) | (with_reducible refine G.drew ?_) | (with_reducible refine G.alloc ?_ _) | (with_reducible refine G.setCell ?_ (by first | (with_reducible exact Nat.le_refl _) | (simp; done) | (simp; omega) | omega) _) | (with_reducible refine G.trans ?_ (by assumption))))⟩
end Go.Proofs.YtipamoakeccecaaDoor
