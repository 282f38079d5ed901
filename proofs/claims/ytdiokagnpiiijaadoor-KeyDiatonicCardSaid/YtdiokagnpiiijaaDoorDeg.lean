import Derived.Test.YtdiokagnpiiijaaDoorRAlt
/-! Degrees of pitches in a key. -/
namespace Go.Proofs.YtdiokagnpiiijaaDoor
open Go.RowKit
attribute [local go_sem] World.cell?_alloc_some

def dgD (f s : Int) : Int := (s - tS (f + mi false)) % 7
set_option maxRecDepth 20000 in
set_option maxHeartbeats 3200000 in
theorem Degree_ok (f s a o : Int) (w : World) (hf : Sg f) (hc : Cl s a) (hT : Tab w) :
    Calls Tryd.prog 33 #[.int .i64 f, .agg #[.int .i64 s, .int .i64 a, .int .i64 o]] w fun e w' => e = .returned (.tuple #[.int .i64 (dgD f s), .int .i64 (a - al f s), .int .i64 0]) ∧ G w w' := by
  have HS := Lib.hid hf
  have HC := Lib.hid hc
  have HT := Lib.hid hT
  obtain ⟨⟨s0, s1⟩, a0, a1⟩ := hc
  have tb := tS_bd (f + mi false)
  obtain ⟨t, ht⟩ : ∃ z : Int, Hid (z = tS (f + mi false)) := ⟨_, rfl⟩
  obtain ⟨A2, hA2⟩ : ∃ z : Int, Hid (z = tA (f + mi false)) := ⟨_, rfl⟩
  have ab := al_bd f s
  obtain ⟨A, hA⟩ : ∃ z : Int, Hid (z = al f s) := ⟨_, rfl⟩
  rw [← ht.out] at tb
  rw [← hA.out] at ab ⊢
  obtain ⟨t0, t1⟩ := tb
  obtain ⟨b0, b1⟩ := ab
  unfold dgD
  rw [← ht.out]
  clear hf hT
  have q1 := IntWalk.i64_in (s - t) (by omega)
  have q2 := IntWalk.i64_in (s - t + 7) (by omega)
  have q3 := IntWalk.i64_in (a - A) (by omega)
  have q4 : (s - t + 7).tmod 7 = (s - t) % 7 := by rw [Int.tmod_eq_emod_of_nonneg (by omega)]; omega
  go_enter Tryd.func33, Tryd.ntmps33
  go_wp2_with fail
  refine (Tonic_ok f false _ HS.out (HT.out.later (by (repeat' (first | (with_reducible exact G.refl _) | (with_reducible assumption) | (with_reducible refine G.drewN ?_ _) | (with_reducible refine G.drew ?_) | (with_reducible refine G.alloc ?_ _) | (with_reducible refine G.setCell ?_ (by first | (with_reducible exact Nat.le_refl _) | (simp; done) | (simp; omega) | omega) _) | (with_reducible refine G.trans ?_ (by assumption))))))).mono ?_
  rintro e w1 ⟨rfl, rfl⟩
  rw [← ht.out, ← hA2.out]
  go_wp2_with fail
  refine (isClass_any s a _).mono ?_
  rintro e w1 ⟨rfl, rfl⟩
  rw [decide_eq_true HC.out]
  go_wp2_with fail
  go_region_held3 (fun w' => w'.cell? ⟨w.heap.size, 0, none⟩ = some (.int .i64 s) ∧ w'.cell? ⟨w.heap.size, 1, none⟩ = some (.int .i64 a) ∧ w'.cell? ⟨w.heap.size, 2, none⟩ = some (.int .i64 o))
    (first | (with_reducible assumption) | ((try dsimp only); (repeat' (with_reducible apply And.intro)) <;> go_simp))
    (first | (go_at_call 38; refine (alteration_any f s _ HS.out (HT.out.later (by (repeat' (first | (with_reducible exact G.refl _) | (with_reducible assumption) | (with_reducible refine G.drewN ?_ _) | (with_reducible refine G.drew ?_) | (with_reducible refine G.alloc ?_ _) | (with_reducible refine G.setCell ?_ (by first | (with_reducible exact Nat.le_refl _) | (simp; done) | (simp; omega) | omega) _) | (with_reducible refine G.trans ?_ (by assumption))))))).mono ?_; rintro e w2 ⟨rfl, rfl⟩; rw [← hA.out]))
  go_wp2_with fail
  go_returns
  exact ⟨rfl, by (repeat' (first | (with_reducible exact G.refl _) | (with_reducible assumption) | (with_reducible refine G.drewN ?_ _) | (with_reducible refine G.drew ?_) | (with_reducible refine G.alloc ?_ _) | (with_reducible refine G.setCell ?_ (by first | (with_reducible exact Nat.le_refl _) | (simp; done) | (simp; omega) | omega) _) | (with_reducible refine G.trans ?_ (by assumption))))⟩

set_option maxHeartbeats 1600000 in
theorem Degree_cl (f s a o : Int) (w : World) (hf : Sg f) (hc : ¬ Cl s a) (hT : Tab w) :
    Calls Tryd.prog 33 #[.int .i64 f, .agg #[.int .i64 s, .int .i64 a, .int .i64 o]] w fun e w' => e = .returned (.tuple #[.int .i64 0, .int .i64 0, .int .i64 18]) ∧ G w w' := by
  have HS := Lib.hid hf
  have HC := Lib.hid hc
  have HT := Lib.hid hT
  clear hf hc hT
  go_enter Tryd.func33, Tryd.ntmps33
  go_wp2_with fail
  refine (Tonic_ok f false _ HS.out (HT.out.later (by (repeat' (first | (with_reducible exact G.refl _) | (with_reducible assumption) | (with_reducible refine G.drewN ?_ _) | (with_reducible refine G.drew ?_) | (with_reducible refine G.alloc ?_ _) | (with_reducible refine G.setCell ?_ (by first | (with_reducible exact Nat.le_refl _) | (simp; done) | (simp; omega) | omega) _) | (with_reducible refine G.trans ?_ (by assumption))))))).mono ?_
  rintro e w1 ⟨rfl, rfl⟩
  go_wp2_with fail
  refine (isClass_any s a _).mono ?_
  rintro e w1 ⟨rfl, rfl⟩
  rw [decide_eq_false HC.out]
  go_wp2_with fail
  go_returns
  exact ⟨rfl, by (repeat' (first | (with_reducible exact G.refl _) | (with_reducible assumption) | (with_reducible refine G.drewN ?_ _) | (with_reducible refine G.drew ?_) | (with_reducible refine G.alloc ?_ _) | (with_reducible refine G.setCell ?_ (by first | (with_reducible exact Nat.le_refl _) | (simp; done) | (simp; omega) | omega) _) | (with_reducible refine G.trans ?_ (by assumption))))⟩
set_option maxHeartbeats 1600000 in
theorem Degree_sg (f s a o : Int) (w : World) (hf : ¬ Sg f) :
    Calls Tryd.prog 33 #[.int .i64 f, .agg #[.int .i64 s, .int .i64 a, .int .i64 o]] w fun e w' => e = .returned (.tuple #[.int .i64 0, .int .i64 0, .int .i64 2]) ∧ G w w' := by
  have HS := Lib.hid hf
  clear hf
  go_enter Tryd.func33, Tryd.ntmps33
  go_wp2_with fail
  refine (Tonic_bad f false _ HS.out).mono ?_
  rintro e w1 ⟨rfl, rfl⟩
  go_wp2_with fail
  go_returns
  exact ⟨rfl, by (repeat' (first | (with_reducible exact G.refl _) | (with_reducible assumption) | (with_reducible refine G.drewN ?_ _) | (with_reducible refine G.drew ?_) | (with_reducible refine G.alloc ?_ _) | (with_reducible refine G.setCell ?_ (by first | (with_reducible exact Nat.le_refl _) | (simp; done) | (simp; omega) | omega) _) | (with_reducible refine G.trans ?_ (by assumption))))⟩

def dia (f s a : Int) : Prop := Sg f ∧ (0 ≤ s ∧ s ≤ 6) ∧ a = al f s
instance (f s a : Int) : Decidable (dia f s a) := by unfold dia; infer_instance
set_option maxHeartbeats 1600000 in
theorem Diatonic_any (f s a o : Int) (w : World) (hT : Tab w) :
    Calls Tryd.prog 34 #[.int .i64 f, .agg #[.int .i64 s, .int .i64 a, .int .i64 o]] w fun e w' => e = .returned (.bool (decide (dia f s a))) ∧ G w w' := by
  have HT := Lib.hid hT
  clear hT
  obtain ⟨D, hD⟩ : ∃ z : Bool, Hid (z = decide (dia f s a)) := ⟨_, rfl⟩
  rw [← hD.out]
  obtain ⟨V, hV⟩ : ∃ z : Int, Hid (z = alV f s) := ⟨_, rfl⟩
  obtain ⟨E, hE⟩ : ∃ z : Int, Hid (z = alE f s) := ⟨_, rfl⟩
  by_cases h : E = 0
  · have hs : Sg f ∧ 0 ≤ s ∧ s ≤ 6 := by
      rw [hE.out] at h; unfold alE at h
      by_cases c : Sg f
      · rw [if_pos c] at h
        by_cases d : 0 ≤ s ∧ s ≤ 6
        · exact ⟨c, d⟩
        · rw [if_neg d] at h; omega
      · rw [if_neg c] at h; omega
    have hv : V = al f s := by rw [hV.out]; unfold alV; rw [if_pos ⟨hs.1, hs.2⟩]
    by_cases c : a = V
    · have hb : (a == V) = true := by rw [c]; simp
      have HD := Lib.hid (show D = true by rw [hD.out]; exact decide_eq_true ⟨hs.1, hs.2, c.trans hv⟩)
      rw [HD.out]
      clear hs hv c
      go_enter Tryd.func34, Tryd.ntmps34
      go_wp2_with fail
      refine (Alter_any f s _ (HT.out.later (by (repeat' (first | (with_reducible exact G.refl _) | (with_reducible assumption) | (with_reducible refine G.drewN ?_ _) | (with_reducible refine G.drew ?_) | (with_reducible refine G.alloc ?_ _) | (with_reducible refine G.setCell ?_ (by first | (with_reducible exact Nat.le_refl _) | (simp; done) | (simp; omega) | omega) _) | (with_reducible refine G.trans ?_ (by assumption))))))).mono ?_
      rintro e w1 ⟨rfl, rfl⟩
      rw [← hV.out, ← hE.out]
      go_wp2_with fail
      go_ret
      exact ⟨rfl, by (repeat' (first | (with_reducible exact G.refl _) | (with_reducible assumption) | (with_reducible refine G.drewN ?_ _) | (with_reducible refine G.drew ?_) | (with_reducible refine G.alloc ?_ _) | (with_reducible refine G.setCell ?_ (by first | (with_reducible exact Nat.le_refl _) | (simp; done) | (simp; omega) | omega) _) | (with_reducible refine G.trans ?_ (by assumption))))⟩
    · have hb : (a == V) = false := beq_false_of_ne c
      have HD := Lib.hid (show D = false by rw [hD.out]; exact decide_eq_false (fun k => c (k.2.2.trans hv.symm)))
      rw [HD.out]
      clear hs hv c
      go_enter Tryd.func34, Tryd.ntmps34
      go_wp2_with fail
      refine (Alter_any f s _ (HT.out.later (by (repeat' (first | (with_reducible exact G.refl _) | (with_reducible assumption) | (with_reducible refine G.drewN ?_ _) | (with_reducible refine G.drew ?_) | (with_reducible refine G.alloc ?_ _) | (with_reducible refine G.setCell ?_ (by first | (with_reducible exact Nat.le_refl _) | (simp; done) | (simp; omega) | omega) _) | (with_reducible refine G.trans ?_ (by assumption))))))).mono ?_
      rintro e w1 ⟨rfl, rfl⟩
      rw [← hV.out, ← hE.out]
      go_wp2_with fail
      go_ret
      exact ⟨rfl, by (repeat' (first | (with_reducible exact G.refl _) | (with_reducible assumption) | (with_reducible refine G.drewN ?_ _) | (with_reducible refine G.drew ?_) | (with_reducible refine G.alloc ?_ _) | (with_reducible refine G.setCell ?_ (by first | (with_reducible exact Nat.le_refl _) | (simp; done) | (simp; omega) | omega) _) | (with_reducible refine G.trans ?_ (by assumption))))⟩
  · have HD := Lib.hid (show D = false by
      rw [hD.out]; refine decide_eq_false (fun k => h ?_)
      rw [hE.out]; unfold alE; rw [if_pos k.1, if_pos k.2.1])
    have hb : (E == 0) = false := beq_false_of_ne h
    rw [HD.out]
    clear h
    go_enter Tryd.func34, Tryd.ntmps34
    go_wp2_with fail
    refine (Alter_any f s _ (HT.out.later (by (repeat' (first | (with_reducible exact G.refl _) | (with_reducible assumption) | (with_reducible refine G.drewN ?_ _) | (with_reducible refine G.drew ?_) | (with_reducible refine G.alloc ?_ _) | (with_reducible refine G.setCell ?_ (by first | (with_reducible exact Nat.le_refl _) | (simp; done) | (simp; omega) | omega) _) | (with_reducible refine G.trans ?_ (by assumption))))))).mono ?_
    rintro e w1 ⟨rfl, rfl⟩
    rw [← hV.out, ← hE.out]
    go_wp2_with fail
    go_ret
    exact ⟨rfl, by (repeat' (first | (with_reducible exact G.refl _) | (with_reducible assumption) | (with_reducible refine G.drewN ?_ _) | (with_reducible refine G.drew ?_) | (with_reducible refine G.alloc ?_ _) | (with_reducible refine G.setCell ?_ (by first | (with_reducible exact Nat.le_refl _) | (simp; done) | (simp; omega) | omega) _) | (with_reducible refine G.trans ?_ (by assumption))))⟩
end Go.Proofs.YtdiokagnpiiijaaDoor
