/- IntervalActs: for every pitch and every two intervals, if Exact leads from the pitch by both one after the other, it leads to the same pitch by their sum; the arguments read as before; the tables that the row lists are tied to the program text; no further condition. -/
import Derived.Test.YtkooggakngheoaaDoorRBtw
import Derived.BigRegion
namespace Go.Proofs.YtkooggakngheoaaDoor
open Go.RowKit
attribute [local go_sem] World.cell?_alloc_some

set_option maxRecDepth 100000 in
set_option maxHeartbeats 3200000 in
theorem acts_walk (s a o x y u v : Int) (w : World) (_ : -9223372036854775808 ≤ s) (_ : s ≤ 9223372036854775807) (_ : -9223372036854775808 ≤ a) (_ : a ≤ 9223372036854775807) (_ : -9223372036854775808 ≤ o) (_ : o ≤ 9223372036854775807) (_ : -9223372036854775808 ≤ x) (_ : x ≤ 9223372036854775807) (_ : -9223372036854775808 ≤ y) (_ : y ≤ 9223372036854775807) (_ : -9223372036854775808 ≤ u) (_ : u ≤ 9223372036854775807) (_ : -9223372036854775808 ≤ v) (_ : v ≤ 9223372036854775807) (hT : Tab w) :
    Calls Tryd.prog 8 #[.agg #[.int .i64 s, .int .i64 a, .int .i64 o], .agg #[.int .i64 x, .int .i64 y], .agg #[.int .i64 u, .int .i64 v]] w fun e w' => e = .returned (.bool true) ∧ G w w' := by
  have HT := Lib.hid hT
  obtain ⟨r1, h1⟩ : ∃ z : Int, Hid (z = (exR s a o x y).1) := ⟨_, rfl⟩
  obtain ⟨r2, h2⟩ : ∃ z : Int, Hid (z = (exR s a o x y).2.1) := ⟨_, rfl⟩
  obtain ⟨r3, h3⟩ : ∃ z : Int, Hid (z = (exR s a o x y).2.2) := ⟨_, rfl⟩
  obtain ⟨E, hE⟩ : ∃ z : Int, Hid (z = exE s a o x y) := ⟨_, rfl⟩
  obtain ⟨q1, k1⟩ : ∃ z : Int, Hid (z = (exR r1 r2 r3 u v).1) := ⟨_, rfl⟩
  obtain ⟨q2, k2⟩ : ∃ z : Int, Hid (z = (exR r1 r2 r3 u v).2.1) := ⟨_, rfl⟩
  obtain ⟨q3, k3⟩ : ∃ z : Int, Hid (z = (exR r1 r2 r3 u v).2.2) := ⟨_, rfl⟩
  obtain ⟨K, hK⟩ : ∃ z : Int, Hid (z = exE r1 r2 r3 u v) := ⟨_, rfl⟩
  clear hT
  by_cases c : E = 0
  · by_cases c2 : K = 0
    · subst c c2
      have e1 := exE_zero hE.out.symm
      have e2 := exE_zero hK.out.symm
      rw [show exR s a o x y = (r1, r2, r3) by rw [h1.out, h2.out, h3.out]] at e1
      rw [show exR r1 r2 r3 u v = (q1, q2, q3) by rw [k1.out, k2.out, k3.out]] at e2
      by_cases c3 : Iv (x + u) (y + v)
      · have hS : Sm x y u v := ⟨⟨e1.2.1, e2.2.1⟩, c3⟩
        have e3 := exE_of e1.1 c3 e2.2.2.1 (by rw [e2.2.2.2.1]; have : hP (r1, r2, r3) = ht r1 r2 r3 := rfl; have := e1.2.2.2.1; omega) (by rw [e2.2.2.2.2]; have : kP (r1, r2, r3) = Go.Proofs.YtkooggakngheoaaDoor.k2 r1 r2 r3 := rfl; have := e1.2.2.2.2; omega)
        have HS := Lib.hid (show sy x y u v (x + u) = x + u ∧ sy x y u v (y + v) = y + v ∧ se x y u v = 0 from ⟨if_pos hS, if_pos hS, if_pos hS⟩)
        have H3 := Lib.hid e3
        obtain ⟨X, hX⟩ : ∃ z : Int, Hid (z = x + u) := ⟨_, rfl⟩
        obtain ⟨Y, hY⟩ : ∃ z : Int, Hid (z = y + v) := ⟨_, rfl⟩
        clear e1 e2 c3 hS e3
        go_enter Tryd.func8, Tryd.ntmps8
        go_wp2_with fail
        refine (iExact_any s a o x y _ (HT.out.hts.later (by (repeat' (first | (with_reducible exact G.refl _) | (with_reducible assumption) | (with_reducible refine G.drewN ?_ _) | (with_reducible refine G.drew ?_) | (with_reducible refine G.alloc ?_ _) | (with_reducible refine G.setCell ?_ (by first | (with_reducible exact Nat.le_refl _) | (simp; done) | (simp; omega) | omega) _) | (with_reducible refine G.trans ?_ (by assumption))))))).mono ?_
        rintro e w1 ⟨rfl, hG1⟩
        rw [← h1.out, ← h2.out, ← h3.out, ← hE.out]
        obtain ⟨⟨y0, y1, y2⟩, ⟨y3, y4⟩, y5, y6⟩ := tddL_later hG1
        go_wp2_with fail
        refine (iExact_any r1 r2 r3 u v _ (HT.out.hts.later (by (repeat' (first | (with_reducible exact G.refl _) | (with_reducible assumption) | (with_reducible refine G.drewN ?_ _) | (with_reducible refine G.drew ?_) | (with_reducible refine G.alloc ?_ _) | (with_reducible refine G.setCell ?_ (by first | (with_reducible exact Nat.le_refl _) | (simp; done) | (simp; omega) | omega) _) | (with_reducible refine G.trans ?_ (by assumption))))))).mono ?_
        rintro e w2 ⟨rfl, hG2⟩
        rw [← k1.out, ← k2.out, ← k3.out, ← hK.out]
        have g12 : G w1 w2 := G.trans (by (repeat' (first | (with_reducible exact G.refl _) | (with_reducible refine G.drewN ?_ _) | (with_reducible refine G.drew ?_) | (with_reducible refine G.alloc ?_ _)))) hG2
        replace y0 := g12.at y0
        replace y1 := g12.at y1
        replace y2 := g12.at y2
        replace y3 := g12.at y3
        replace y4 := g12.at y4
        replace y5 := g12.at y5
        replace y6 := g12.at y6
        go_wp2_with fail
        refine (known_any _ (HT.out.later (by (repeat' (first | (with_reducible exact G.refl _) | (with_reducible assumption) | (with_reducible refine G.drewN ?_ _) | (with_reducible refine G.drew ?_) | (with_reducible refine G.alloc ?_ _) | (with_reducible refine G.setCell ?_ (by first | (with_reducible exact Nat.le_refl _) | (simp; done) | (simp; omega) | omega) _) | (with_reducible refine G.trans ?_ (by assumption))))))).mono ?_
        rintro e w3 ⟨rfl, hG3⟩
        obtain ⟨z0, z1, z2⟩ := tri_later hG3
        have g23 : G w2 w3 := G.trans (by (repeat' (first | (with_reducible exact G.refl _) | (with_reducible refine G.drewN ?_ _) | (with_reducible refine G.drew ?_) | (with_reducible refine G.alloc ?_ _)))) hG3
        replace y0 := g23.at y0
        replace y1 := g23.at y1
        replace y2 := g23.at y2
        replace y3 := g23.at y3
        replace y4 := g23.at y4
        replace y5 := g23.at y5
        replace y6 := g23.at y6
        go_wp2_with fail
        refine (iAdd_any x y u v _).mono ?_
        rintro e w4 ⟨rfl, hG4⟩
        rw [HS.out.1, HS.out.2.1, HS.out.2.2, ← hX.out, ← hY.out]
        replace z0 := hG4.at z0
        replace z1 := hG4.at z1
        replace z2 := hG4.at z2
        replace y0 := hG4.at y0
        replace y1 := hG4.at y1
        replace y2 := hG4.at y2
        clear y3 y4 y5 y6
        go_wp2_with fail
        refine (iExact_any s a o X Y _ (HT.out.hts.later (by (repeat' (first | (with_reducible exact G.refl _) | (with_reducible assumption) | (with_reducible refine G.drewN ?_ _) | (with_reducible refine G.drew ?_) | (with_reducible refine G.alloc ?_ _) | (with_reducible refine G.setCell ?_ (by first | (with_reducible exact Nat.le_refl _) | (simp; done) | (simp; omega) | omega) _) | (with_reducible refine G.trans ?_ (by assumption))))))).mono ?_
        rintro e w5 ⟨rfl, hG5⟩
        rw [hX.out, hY.out, H3.out.1, H3.out.2]
        have g45 : G w4 w5 := G.trans (by (repeat' (first | (with_reducible exact G.refl _) | (with_reducible refine G.drewN ?_ _) | (with_reducible refine G.drew ?_) | (with_reducible refine G.alloc ?_ _)))) hG5
        replace z0 := g45.at z0
        replace z1 := g45.at z1
        replace z2 := g45.at z2
        clear y0 y1 y2
        go_wp2_with fail
        go_ret
        exact ⟨by first | rfl | simp, by (repeat' (first | (with_reducible exact G.refl _) | (with_reducible assumption) | (with_reducible refine G.drewN ?_ _) | (with_reducible refine G.drew ?_) | (with_reducible refine G.alloc ?_ _) | (with_reducible refine G.setCell ?_ (by first | (with_reducible exact Nat.le_refl _) | (simp; done) | (simp; omega) | omega) _) | (with_reducible refine G.trans ?_ (by assumption))))⟩
      · have hS : ¬ Sm x y u v := fun z => c3 z.2
        have HS := Lib.hid (show sy x y u v (x + u) = 0 ∧ sy x y u v (y + v) = 0 ∧ se x y u v = 2 from ⟨if_neg hS, if_neg hS, if_neg hS⟩)
        clear e1 e2 c3 hS
        go_enter Tryd.func8, Tryd.ntmps8
        go_wp2_with fail
        refine (iExact_any s a o x y _ (HT.out.hts.later (by (repeat' (first | (with_reducible exact G.refl _) | (with_reducible assumption) | (with_reducible refine G.drewN ?_ _) | (with_reducible refine G.drew ?_) | (with_reducible refine G.alloc ?_ _) | (with_reducible refine G.setCell ?_ (by first | (with_reducible exact Nat.le_refl _) | (simp; done) | (simp; omega) | omega) _) | (with_reducible refine G.trans ?_ (by assumption))))))).mono ?_
        rintro e w1 ⟨rfl, hG1⟩
        rw [← h1.out, ← h2.out, ← h3.out, ← hE.out]
        obtain ⟨⟨y0, y1, y2⟩, ⟨y3, y4⟩, y5, y6⟩ := tddL_later hG1
        go_wp2_with fail
        refine (iExact_any r1 r2 r3 u v _ (HT.out.hts.later (by (repeat' (first | (with_reducible exact G.refl _) | (with_reducible assumption) | (with_reducible refine G.drewN ?_ _) | (with_reducible refine G.drew ?_) | (with_reducible refine G.alloc ?_ _) | (with_reducible refine G.setCell ?_ (by first | (with_reducible exact Nat.le_refl _) | (simp; done) | (simp; omega) | omega) _) | (with_reducible refine G.trans ?_ (by assumption))))))).mono ?_
        rintro e w2 ⟨rfl, hG2⟩
        rw [← k1.out, ← k2.out, ← k3.out, ← hK.out]
        have g12 : G w1 w2 := G.trans (by (repeat' (first | (with_reducible exact G.refl _) | (with_reducible refine G.drewN ?_ _) | (with_reducible refine G.drew ?_) | (with_reducible refine G.alloc ?_ _)))) hG2
        replace y3 := g12.at y3
        replace y4 := g12.at y4
        replace y5 := g12.at y5
        replace y6 := g12.at y6
        clear y0 y1 y2
        go_wp2_with fail
        refine (known_any _ (HT.out.later (by (repeat' (first | (with_reducible exact G.refl _) | (with_reducible assumption) | (with_reducible refine G.drewN ?_ _) | (with_reducible refine G.drew ?_) | (with_reducible refine G.alloc ?_ _) | (with_reducible refine G.setCell ?_ (by first | (with_reducible exact Nat.le_refl _) | (simp; done) | (simp; omega) | omega) _) | (with_reducible refine G.trans ?_ (by assumption))))))).mono ?_
        rintro e w3 ⟨rfl, hG3⟩
        have g23 : G w2 w3 := G.trans (by (repeat' (first | (with_reducible exact G.refl _) | (with_reducible refine G.drewN ?_ _) | (with_reducible refine G.drew ?_) | (with_reducible refine G.alloc ?_ _)))) hG3
        replace y3 := g23.at y3
        replace y4 := g23.at y4
        replace y5 := g23.at y5
        replace y6 := g23.at y6
        go_wp2_with fail
        refine (iAdd_any x y u v _).mono ?_
        rintro e w4 ⟨rfl, hG4⟩
        rw [HS.out.1, HS.out.2.1, HS.out.2.2]
        clear y3 y4 y5 y6
        go_wp2_with fail
        go_ret
        exact ⟨by first | rfl | simp, by (repeat' (first | (with_reducible exact G.refl _) | (with_reducible assumption) | (with_reducible refine G.drewN ?_ _) | (with_reducible refine G.drew ?_) | (with_reducible refine G.alloc ?_ _) | (with_reducible refine G.setCell ?_ (by first | (with_reducible exact Nat.le_refl _) | (simp; done) | (simp; omega) | omega) _) | (with_reducible refine G.trans ?_ (by assumption))))⟩
    · have b1 : (K == 0) = false := beq_false_of_ne c2
      have b2 : (K != 0) = true := by simp [bne, b1]
      subst c
      clear c2
      go_enter Tryd.func8, Tryd.ntmps8
      go_wp2_with fail
      refine (iExact_any s a o x y _ (HT.out.hts.later (by (repeat' (first | (with_reducible exact G.refl _) | (with_reducible assumption) | (with_reducible refine G.drewN ?_ _) | (with_reducible refine G.drew ?_) | (with_reducible refine G.alloc ?_ _) | (with_reducible refine G.setCell ?_ (by first | (with_reducible exact Nat.le_refl _) | (simp; done) | (simp; omega) | omega) _) | (with_reducible refine G.trans ?_ (by assumption))))))).mono ?_
      rintro e w1 ⟨rfl, hG1⟩
      rw [← h1.out, ← h2.out, ← h3.out, ← hE.out]
      obtain ⟨⟨y0, y1, y2⟩, ⟨y3, y4⟩, y5, y6⟩ := tddL_later hG1
      go_wp2_with fail
      refine (iExact_any r1 r2 r3 u v _ (HT.out.hts.later (by (repeat' (first | (with_reducible exact G.refl _) | (with_reducible assumption) | (with_reducible refine G.drewN ?_ _) | (with_reducible refine G.drew ?_) | (with_reducible refine G.alloc ?_ _) | (with_reducible refine G.setCell ?_ (by first | (with_reducible exact Nat.le_refl _) | (simp; done) | (simp; omega) | omega) _) | (with_reducible refine G.trans ?_ (by assumption))))))).mono ?_
      rintro e w2 ⟨rfl, hG2⟩
      rw [← k1.out, ← k2.out, ← k3.out, ← hK.out]
      clear y0 y1 y2 y3 y4 y5 y6
      go_wp2_with fail
      refine (known_any _ (HT.out.later (by (repeat' (first | (with_reducible exact G.refl _) | (with_reducible assumption) | (with_reducible refine G.drewN ?_ _) | (with_reducible refine G.drew ?_) | (with_reducible refine G.alloc ?_ _) | (with_reducible refine G.setCell ?_ (by first | (with_reducible exact Nat.le_refl _) | (simp; done) | (simp; omega) | omega) _) | (with_reducible refine G.trans ?_ (by assumption))))))).mono ?_
      rintro e w3 ⟨rfl, hG3⟩
      go_wp2_with fail
      refine (known_any _ (HT.out.later (by (repeat' (first | (with_reducible exact G.refl _) | (with_reducible assumption) | (with_reducible refine G.drewN ?_ _) | (with_reducible refine G.drew ?_) | (with_reducible refine G.alloc ?_ _) | (with_reducible refine G.setCell ?_ (by first | (with_reducible exact Nat.le_refl _) | (simp; done) | (simp; omega) | omega) _) | (with_reducible refine G.trans ?_ (by assumption))))))).mono ?_
      rintro e w4 ⟨rfl, hG4⟩
      go_wp2_with fail
      go_ret
      exact ⟨by first | rfl | simp, by (repeat' (first | (with_reducible exact G.refl _) | (with_reducible assumption) | (with_reducible refine G.drewN ?_ _) | (with_reducible refine G.drew ?_) | (with_reducible refine G.alloc ?_ _) | (with_reducible refine G.setCell ?_ (by first | (with_reducible exact Nat.le_refl _) | (simp; done) | (simp; omega) | omega) _) | (with_reducible refine G.trans ?_ (by assumption))))⟩
  · have b1 : (E == 0) = false := beq_false_of_ne c
    have b2 : (E != 0) = true := by simp [bne, b1]
    clear c
    go_enter Tryd.func8, Tryd.ntmps8
    go_wp2_with fail
    refine (iExact_any s a o x y _ (HT.out.hts.later (by (repeat' (first | (with_reducible exact G.refl _) | (with_reducible assumption) | (with_reducible refine G.drewN ?_ _) | (with_reducible refine G.drew ?_) | (with_reducible refine G.alloc ?_ _) | (with_reducible refine G.setCell ?_ (by first | (with_reducible exact Nat.le_refl _) | (simp; done) | (simp; omega) | omega) _) | (with_reducible refine G.trans ?_ (by assumption))))))).mono ?_
    rintro e w1 ⟨rfl, hG1⟩
    rw [← h1.out, ← h2.out, ← h3.out, ← hE.out]
    obtain ⟨⟨y0, y1, y2⟩, ⟨y3, y4⟩, y5, y6⟩ := tddL_later hG1
    go_wp2_with fail
    refine (iExact_any r1 r2 r3 u v _ (HT.out.hts.later (by (repeat' (first | (with_reducible exact G.refl _) | (with_reducible assumption) | (with_reducible refine G.drewN ?_ _) | (with_reducible refine G.drew ?_) | (with_reducible refine G.alloc ?_ _) | (with_reducible refine G.setCell ?_ (by first | (with_reducible exact Nat.le_refl _) | (simp; done) | (simp; omega) | omega) _) | (with_reducible refine G.trans ?_ (by assumption))))))).mono ?_
    rintro e w2 ⟨rfl, hG2⟩
    rw [← k1.out, ← k2.out, ← k3.out, ← hK.out]
    clear y0 y1 y2 y3 y4 y5 y6
    go_wp2_with fail
    refine (known_any _ (HT.out.later (by (repeat' (first | (with_reducible exact G.refl _) | (with_reducible assumption) | (with_reducible refine G.drewN ?_ _) | (with_reducible refine G.drew ?_) | (with_reducible refine G.alloc ?_ _) | (with_reducible refine G.setCell ?_ (by first | (with_reducible exact Nat.le_refl _) | (simp; done) | (simp; omega) | omega) _) | (with_reducible refine G.trans ?_ (by assumption))))))).mono ?_
    rintro e w3 ⟨rfl, hG3⟩
    go_wp2_with fail
    refine (known_any _ (HT.out.later (by (repeat' (first | (with_reducible exact G.refl _) | (with_reducible assumption) | (with_reducible refine G.drewN ?_ _) | (with_reducible refine G.drew ?_) | (with_reducible refine G.alloc ?_ _) | (with_reducible refine G.setCell ?_ (by first | (with_reducible exact Nat.le_refl _) | (simp; done) | (simp; omega) | omega) _) | (with_reducible refine G.trans ?_ (by assumption))))))).mono ?_
    rintro e w4 ⟨rfl, hG4⟩
    go_wp2_with fail
    go_ret
    exact ⟨by first | rfl | simp, by (repeat' (first | (with_reducible exact G.refl _) | (with_reducible assumption) | (with_reducible refine G.drewN ?_ _) | (with_reducible refine G.drew ?_) | (with_reducible refine G.alloc ?_ _) | (with_reducible refine G.setCell ?_ (by first | (with_reducible exact Nat.le_refl _) | (simp; done) | (simp; omega) | omega) _) | (with_reducible refine G.trans ?_ (by assumption))))⟩

/-! ### the row and the card -/
open Go.ChangeShapes Go.WideShapes Go.ChangeAt Go.RowKit
set_option maxRecDepth 100000 in
theorem intervalActs_lifted (os : Os) (started : os.Started) (H : Type) (enc : TypeId × Value → H) :
    ReturnsInHanded {} Tryd.checked os 8 .any (fun w args => (Rows.intervalActsSpec.pre enc Tryd.prog Tryd.f8 [] false w args ∧ laidMetH Tryd.prog laidL w) ∧ sizedMet enc Tryd.prog Tryd.f8 (OpenSpec.ofChange Rows.intervalActsSpec) false w args)
      (Rows.intervalActsSpec.post enc Tryd.prog Tryd.f8 false true false false) := by
  refine returnsInHanded_of_change_and (C := Tryd.checked) (X := fun w _ => laidMetH Tryd.prog laidL w) (fun _ _ _ hh h => h.of_heap hh) own started (by kernel_rfl) Tryd.func8
    (ChangeSpec.witness_shaped (enc := enc) (C := Tryd.checked) (os := os) (X := fun w _ => laidMetH Tryd.prog laidL w) false (World.laidAll Tryd.prog os laidL) #[.agg #[.int .i64 0, .int .i64 0, .int .i64 0], .agg #[.int .i64 0, .int .i64 0], .agg #[.int .i64 0, .int .i64 0]] 8 (World.laidAll_os _ _ _) (shapedL os) (by kernel_rfl) (by kernel_rfl) (by kernel_rfl) (laid_met os _)) ?_
  intro W base args ds gs before hval0 hW _ _ hL _
  have hval : ∀ (j : Nat) t v, Tryd.f8.params[j]? = some t → args[j]? = some v → Value.okWide Tryd.prog W .any base t v := hval0
  have hW' := hW
  obtain ⟨p, q, hA0, hV, rfl, hfz, hnd⟩ := hW
  have hA : DataW.TrodAll enc Tryd.prog W 0 (fun _ => true) true Tryd.f8.params.toList args.toList ds p := hA0
  rw [Tryd.params8] at hA hval
  obtain ⟨v0, vs0, d0, ds0, p0, q0, hargs, rfl, rfl, h0, r0⟩ := trodAll_cons hA
  obtain ⟨v1, vs1, d1, ds1, p1, q1, rfl, rfl, rfl, h1, r1⟩ := trodAll_cons r0
  obtain ⟨v2, vs2, d2, ds2, p2, q2, rfl, rfl, rfl, h2, r2⟩ := trodAll_cons r1
  obtain ⟨rfl, rfl, rfl⟩ := trodAll_nil r2
  obtain rfl : args = #[v0, v1, v2] := by cases args; simp_all
  obtain ⟨rfl, rfl⟩ := trodVars_none hV
  obtain ⟨a0, b0, c0, rfl, rfl, rfl, w0, u0, y0⟩ := open_pitch (hval 0 41 v0 rfl rfl) h0
  obtain ⟨al0, ah0⟩ := bounds_i64 w0
  obtain ⟨bl0, bh0⟩ := bounds_i64 u0
  obtain ⟨cl0, ch0⟩ := bounds_i64 y0
  obtain ⟨a1, b1, rfl, rfl, rfl, w1, u1⟩ := open_iv (hval 1 23 v1 rfl rfl) h1
  obtain ⟨bl1, bh1⟩ := bounds_i64 w1
  obtain ⟨cl1, ch1⟩ := bounds_i64 u1
  obtain ⟨a2, b2, rfl, rfl, rfl, w2, u2⟩ := open_iv (hval 2 23 v2 rfl rfl) h2
  obtain ⟨bl2, bh2⟩ := bounds_i64 w2
  obtain ⟨cl2, ch2⟩ := bounds_i64 u2
  clear hA0 hval0
  simp only [List.append_nil] at hW'
  refine (acts_walk a0 b0 c0 a1 b1 a2 b2 W al0 ah0 bl0 bh0 cl0 ch0 bl1 bh1 cl1 ch1 bl2 bh2 cl2 ch2  (tab_of_laid hL)).mono fun e W' ⟨he, hg⟩ => ?_
  subst he
  exact ⟨_, rfl, _, _, _, [], [], [], hW', (trodAll_cons_mk (shut_bool Tryd.underlying4 _) trodAll_mk0), (trodAll_cons_mk (shut_pitch w0 u0 y0) (trodAll_cons_mk (shut_iv w1 u1) (trodAll_cons_mk (shut_iv w2 u2) trodAll_mk0))), rfl, Below.frame hg _, fun h => by cases h⟩

theorem intervalActs_holds : Rows.IntervalActsSaid :=
  OpenClaim.holds_of_wide 8 Tryd.f8 rfl rfl rfl rfl rfl rfl rfl ⟨rfl, rfl, rfl, rfl, rfl⟩ rfl rfl rfl rfl rfl (by kernel_rfl) Tryd.func8 (by kernel_rfl)
    (of_decide_eq_true (by kernel_rfl)) (by unfold Func.isWrapper; first | (rw [if_pos (by decide +kernel)]; kernel_rfl) | (rw [if_neg (by decide +kernel)]; exact ⟨rfl, rfl⟩))
    (fun os started H enc _ => intervalActs_lifted os started H enc)

theorem intervalActs_card : Rows.IntervalActsCardSaid :=
  Claim7.holds_tied_plain_at .later [] [.data, .data, .data, .data, .data] true (true, "07eaf8fc6e67b9a0961191b344b017356c7addb51c8f341747d9d4082577b353") false
    intervalActs_holds (fun _ h => by cases h) (by kernel_rfl) (fun _ h => by cases h) intervalActs_row_tie rfl ⟨rfl, rfl⟩ (by kernel_rfl) rfl
    (fun f fn hf hfn => by
      obtain rfl : f = 8 := Option.some.inj ((show Tryd.prog.funcNamed "hemiola/hemiolalaw06.IntervalActs" = some 8 by kernel_rfl).symm.trans hf) |>.symm
      obtain rfl : fn = Tryd.f8 := (Option.some.inj (Tryd.func8.symm.trans hfn)).symm
      exact ⟨by kernel_rfl, fun j t ht => by
        rw [Tryd.params8] at ht
        have hm : t ∈ [41, 23, 23] := by simpa using Array.mem_of_getElem? ht
        have hall : ([41, 23, 23].all fun u => !Tryd.prog.wantsStandIn u) = true := by kernel_rfl
        exact (show Tryd.prog.wantsStandIn t = false by simpa using List.all_eq_true.1 hall t hm)⟩)
    (by kernel_rfl)
#print axioms intervalActs_card
end Go.Proofs.YtkooggakngheoaaDoor
