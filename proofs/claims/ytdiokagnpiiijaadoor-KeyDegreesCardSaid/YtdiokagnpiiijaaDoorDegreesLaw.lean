/- KeyDegrees: for every number of fifths and every pitch, Degree and Diatonic return what the document defines, or the errors, and a pitch is diatonic just if it is not raised; the arguments read as before; the tables that the row lists are tied to the program text; no further condition. -/
import Derived.Test.YtdiokagnpiiijaaDoorKnown
import Derived.Test.YtdiokagnpiiijaaDoorLaid
import Derived.Test.YtdiokagnpiiijaaDoorDeg
namespace Go.Proofs.YtdiokagnpiiijaaDoor
open Go.RowKit
attribute [local go_sem] World.cell?_alloc_some

set_option maxRecDepth 100000 in
set_option maxHeartbeats 3200000 in
theorem degrees_ok (f s a o : Int) (w : World) (hT : Tab w) (hs : Sg f) (hc : Cl s a) :
    Calls Tryd.prog 10 #[.int .i64 f, .agg #[.int .i64 s, .int .i64 a, .int .i64 o]] w fun e w' => e = .returned (.bool true) ∧ G w w' := by
  have HT := Lib.hid hT
  have HS := Lib.hid hs
  have HC := Lib.hid hc
  clear hT
  obtain ⟨⟨s0, s1⟩, a0, a1⟩ := hc
  have tb := tS_bd (f + mi false)
  obtain ⟨t, ht⟩ : ∃ z : Int, Hid (z = tS (f + mi false)) := ⟨_, rfl⟩
  obtain ⟨A2, hA2⟩ : ∃ z : Int, Hid (z = tA (f + mi false)) := ⟨_, rfl⟩
  obtain ⟨D, hD⟩ : ∃ z : Int, Hid (z = dgD f s) := ⟨_, rfl⟩
  have hDt := Lib.hid (show D = (s - t) % 7 by rw [hD.out]; unfold dgD; rw [ht.out])
  have ab := al_bd f s
  obtain ⟨A, hA⟩ : ∃ z : Int, Hid (z = al f s) := ⟨_, rfl⟩
  rw [← ht.out] at tb
  rw [← hA.out] at ab
  obtain ⟨t0, t1⟩ := tb
  obtain ⟨b0, b1⟩ := ab
  have q1 := IntWalk.i64_in (s - t) (by omega)
  have q2 := IntWalk.i64_in (s - t + 7) (by omega)
  have q3 := IntWalk.i64_in (a - A) (by omega)
  have q4 : (s - t + 7).tmod 7 = (s - t) % 7 := by rw [Int.tmod_eq_emod_of_nonneg (by omega)]; omega
  by_cases c : a = A
  · have HZ := Lib.hid (show decide (dia f s a) = true from decide_eq_true ⟨hs, ⟨s0, s1⟩, c.trans hA.out⟩)
    have hb : (a - A == 0) = true := by rw [c]; simp
    clear c hs
    go_enter Tryd.func10, Tryd.ntmps10
    go_wp2_with fail
    refine (Degree_ok f s a o _ HS.out HC.out (HT.out.later (by (repeat' (first | (with_reducible exact G.refl _) | (with_reducible assumption) | (with_reducible refine G.drewN ?_ _) | (with_reducible refine G.drew ?_) | (with_reducible refine G.alloc ?_ _) | (with_reducible refine G.setCell ?_ (by first | (with_reducible exact Nat.le_refl _) | (simp; done) | (simp; omega) | omega) _) | (with_reducible refine G.trans ?_ (by assumption))))))).mono ?_
    rintro e w1 ⟨rfl, hG1⟩
    rw [← hD.out, ← hA.out, hDt.out]
    obtain ⟨y0, y1, y2⟩ := tri_at rfl hG1
    go_wp2_with fail
    refine (Diatonic_any f s a o _ (HT.out.later (by (repeat' (first | (with_reducible exact G.refl _) | (with_reducible assumption) | (with_reducible refine G.drewN ?_ _) | (with_reducible refine G.drew ?_) | (with_reducible refine G.alloc ?_ _) | (with_reducible refine G.setCell ?_ (by first | (with_reducible exact Nat.le_refl _) | (simp; done) | (simp; omega) | omega) _) | (with_reducible refine G.trans ?_ (by assumption))))))).mono ?_
    rintro e w2 ⟨rfl, hG2⟩
    rw [HZ.out]
    replace y0 := hG2.at y0
    replace y1 := hG2.at y1
    replace y2 := hG2.at y2
    go_wp2_with fail
    refine (known_any _ (HT.out.later (by (repeat' (first | (with_reducible exact G.refl _) | (with_reducible assumption) | (with_reducible refine G.drewN ?_ _) | (with_reducible refine G.drew ?_) | (with_reducible refine G.alloc ?_ _) | (with_reducible refine G.setCell ?_ (by first | (with_reducible exact Nat.le_refl _) | (simp; done) | (simp; omega) | omega) _) | (with_reducible refine G.trans ?_ (by assumption))))))).mono ?_
    rintro e w3 ⟨rfl, hG3⟩
    replace y0 := hG3.at y0
    replace y1 := hG3.at y1
    replace y2 := hG3.at y2
    go_wp2_with fail
    refine (rIs_any f _).mono ?_
    rintro e w4 ⟨rfl, rfl⟩
    rw [decide_eq_true HS.out]
    go_wp2_with fail
    refine (rTonic_any f false _ HS.out).mono ?_
    rintro e w5 ⟨rfl, hG5⟩
    rw [← ht.out, ← hA2.out]
    replace y0 := hG5.at y0
    replace y1 := hG5.at y1
    replace y2 := hG5.at y2
    go_wp2_with fail
    go_region_held3 (fun w' => w'.cell? ⟨w.heap.size, 0, none⟩ = some (.int .i64 s) ∧ w'.cell? ⟨w.heap.size, 1, none⟩ = some (.int .i64 a) ∧ w'.cell? ⟨w.heap.size, 2, none⟩ = some (.int .i64 o))
      (first | (with_reducible assumption) | ((try dsimp only); (repeat' (with_reducible apply And.intro)) <;> go_simp))
      (first | (go_at_call 20; refine (rAlter_any f s _ HS.out s0 s1).mono ?_; rintro e w6 ⟨rfl, hG6⟩; rw [← hA.out]; have z0 := hG6.at y0; have z1 := hG6.at y1; have z2 := hG6.at y2))
    go_wp2_with fail
    go_ret
    exact ⟨by first | rfl | simp, by (repeat' (first | (with_reducible exact G.refl _) | (with_reducible assumption) | (with_reducible refine G.drewN ?_ _) | (with_reducible refine G.drew ?_) | (with_reducible refine G.alloc ?_ _) | (with_reducible refine G.setCell ?_ (by first | (with_reducible exact Nat.le_refl _) | (simp; done) | (simp; omega) | omega) _) | (with_reducible refine G.trans ?_ (by assumption))))⟩
  · have HZ := Lib.hid (show decide (dia f s a) = false from decide_eq_false (fun k => c (k.2.2.trans hA.out.symm)))
    have hb : (a - A == 0) = false := beq_false_of_ne (by omega)
    clear c hs
    go_enter Tryd.func10, Tryd.ntmps10
    go_wp2_with fail
    refine (Degree_ok f s a o _ HS.out HC.out (HT.out.later (by (repeat' (first | (with_reducible exact G.refl _) | (with_reducible assumption) | (with_reducible refine G.drewN ?_ _) | (with_reducible refine G.drew ?_) | (with_reducible refine G.alloc ?_ _) | (with_reducible refine G.setCell ?_ (by first | (with_reducible exact Nat.le_refl _) | (simp; done) | (simp; omega) | omega) _) | (with_reducible refine G.trans ?_ (by assumption))))))).mono ?_
    rintro e w1 ⟨rfl, hG1⟩
    rw [← hD.out, ← hA.out, hDt.out]
    obtain ⟨y0, y1, y2⟩ := tri_at rfl hG1
    go_wp2_with fail
    refine (Diatonic_any f s a o _ (HT.out.later (by (repeat' (first | (with_reducible exact G.refl _) | (with_reducible assumption) | (with_reducible refine G.drewN ?_ _) | (with_reducible refine G.drew ?_) | (with_reducible refine G.alloc ?_ _) | (with_reducible refine G.setCell ?_ (by first | (with_reducible exact Nat.le_refl _) | (simp; done) | (simp; omega) | omega) _) | (with_reducible refine G.trans ?_ (by assumption))))))).mono ?_
    rintro e w2 ⟨rfl, hG2⟩
    rw [HZ.out]
    replace y0 := hG2.at y0
    replace y1 := hG2.at y1
    replace y2 := hG2.at y2
    go_wp2_with fail
    refine (known_any _ (HT.out.later (by (repeat' (first | (with_reducible exact G.refl _) | (with_reducible assumption) | (with_reducible refine G.drewN ?_ _) | (with_reducible refine G.drew ?_) | (with_reducible refine G.alloc ?_ _) | (with_reducible refine G.setCell ?_ (by first | (with_reducible exact Nat.le_refl _) | (simp; done) | (simp; omega) | omega) _) | (with_reducible refine G.trans ?_ (by assumption))))))).mono ?_
    rintro e w3 ⟨rfl, hG3⟩
    replace y0 := hG3.at y0
    replace y1 := hG3.at y1
    replace y2 := hG3.at y2
    go_wp2_with fail
    refine (rIs_any f _).mono ?_
    rintro e w4 ⟨rfl, rfl⟩
    rw [decide_eq_true HS.out]
    go_wp2_with fail
    refine (rTonic_any f false _ HS.out).mono ?_
    rintro e w5 ⟨rfl, hG5⟩
    rw [← ht.out, ← hA2.out]
    replace y0 := hG5.at y0
    replace y1 := hG5.at y1
    replace y2 := hG5.at y2
    go_wp2_with fail
    go_region_held3 (fun w' => w'.cell? ⟨w.heap.size, 0, none⟩ = some (.int .i64 s) ∧ w'.cell? ⟨w.heap.size, 1, none⟩ = some (.int .i64 a) ∧ w'.cell? ⟨w.heap.size, 2, none⟩ = some (.int .i64 o))
      (first | (with_reducible assumption) | ((try dsimp only); (repeat' (with_reducible apply And.intro)) <;> go_simp))
      (first | (go_at_call 20; refine (rAlter_any f s _ HS.out s0 s1).mono ?_; rintro e w6 ⟨rfl, hG6⟩; rw [← hA.out]; have z0 := hG6.at y0; have z1 := hG6.at y1; have z2 := hG6.at y2))
    go_wp2_with fail
    go_ret
    exact ⟨by first | rfl | simp, by (repeat' (first | (with_reducible exact G.refl _) | (with_reducible assumption) | (with_reducible refine G.drewN ?_ _) | (with_reducible refine G.drew ?_) | (with_reducible refine G.alloc ?_ _) | (with_reducible refine G.setCell ?_ (by first | (with_reducible exact Nat.le_refl _) | (simp; done) | (simp; omega) | omega) _) | (with_reducible refine G.trans ?_ (by assumption))))⟩

set_option maxRecDepth 100000 in
set_option maxHeartbeats 3200000 in
theorem degrees_walk (f s a o : Int) (w : World) (_ : -9223372036854775808 ≤ f) (_ : f ≤ 9223372036854775807) (_ : -9223372036854775808 ≤ s) (_ : s ≤ 9223372036854775807) (_ : -9223372036854775808 ≤ a) (_ : a ≤ 9223372036854775807) (_ : -9223372036854775808 ≤ o) (_ : o ≤ 9223372036854775807) (hT : Tab w) :
    Calls Tryd.prog 10 #[.int .i64 f, .agg #[.int .i64 s, .int .i64 a, .int .i64 o]] w fun e w' => e = .returned (.bool true) ∧ G w w' := by
  by_cases h : Sg f
  · by_cases hc : Cl s a
    · exact degrees_ok f s a o w hT h hc
    have HT := Lib.hid hT
    have HS := Lib.hid h
    have HC := Lib.hid hc
    have ab := al_bd f s
    have HZ := Lib.hid (show decide (dia f s a) = false from decide_eq_false (fun k => hc ⟨k.2.1, by have := k.2.2; omega⟩))
    have h4 : s < 0 ∨ 6 < s ∨ (0 ≤ s ∧ s ≤ 6 ∧ (a < -2 ∨ 2 < a)) := by unfold Cl at hc; omega
    clear hc h hT
    rcases h4 with h4 | h4 | ⟨h5, h6, h4 | h4⟩
    all_goals
      go_enter Tryd.func10, Tryd.ntmps10
      go_wp2_with fail
      refine (Degree_cl f s a o _ HS.out HC.out (HT.out.later (by (repeat' (first | (with_reducible exact G.refl _) | (with_reducible assumption) | (with_reducible refine G.drewN ?_ _) | (with_reducible refine G.drew ?_) | (with_reducible refine G.alloc ?_ _) | (with_reducible refine G.setCell ?_ (by first | (with_reducible exact Nat.le_refl _) | (simp; done) | (simp; omega) | omega) _) | (with_reducible refine G.trans ?_ (by assumption))))))).mono ?_
      rintro e w1 ⟨rfl, hG1⟩
      obtain ⟨y0, y1, y2⟩ := tri_at rfl hG1
      go_wp2_with fail
      refine (Diatonic_any f s a o _ (HT.out.later (by (repeat' (first | (with_reducible exact G.refl _) | (with_reducible assumption) | (with_reducible refine G.drewN ?_ _) | (with_reducible refine G.drew ?_) | (with_reducible refine G.alloc ?_ _) | (with_reducible refine G.setCell ?_ (by first | (with_reducible exact Nat.le_refl _) | (simp; done) | (simp; omega) | omega) _) | (with_reducible refine G.trans ?_ (by assumption))))))).mono ?_
      rintro e w2 ⟨rfl, hG2⟩
      rw [HZ.out]
      replace y0 := hG2.at y0
      replace y1 := hG2.at y1
      replace y2 := hG2.at y2
      go_wp2_with fail
      refine (known_any _ (HT.out.later (by (repeat' (first | (with_reducible exact G.refl _) | (with_reducible assumption) | (with_reducible refine G.drewN ?_ _) | (with_reducible refine G.drew ?_) | (with_reducible refine G.alloc ?_ _) | (with_reducible refine G.setCell ?_ (by first | (with_reducible exact Nat.le_refl _) | (simp; done) | (simp; omega) | omega) _) | (with_reducible refine G.trans ?_ (by assumption))))))).mono ?_
      rintro e w3 ⟨rfl, hG3⟩
      replace y0 := hG3.at y0
      replace y1 := hG3.at y1
      replace y2 := hG3.at y2
      go_wp2_with fail
      refine (rIs_any f _).mono ?_
      rintro e w4 ⟨rfl, rfl⟩
      rw [decide_eq_true HS.out]
      go_wp2_with fail
      go_ret
      exact ⟨rfl, by (repeat' (first | (with_reducible exact G.refl _) | (with_reducible assumption) | (with_reducible refine G.drewN ?_ _) | (with_reducible refine G.drew ?_) | (with_reducible refine G.alloc ?_ _) | (with_reducible refine G.setCell ?_ (by first | (with_reducible exact Nat.le_refl _) | (simp; done) | (simp; omega) | omega) _) | (with_reducible refine G.trans ?_ (by assumption))))⟩
  · have HT := Lib.hid hT
    have HS := Lib.hid h
    have HZ := Lib.hid (show decide (dia f s a) = false from decide_eq_false (fun k => h k.1))
    clear h hT
    go_enter Tryd.func10, Tryd.ntmps10
    go_wp2_with fail
    refine (Degree_sg f s a o _ HS.out).mono ?_
    rintro e w1 ⟨rfl, hG1⟩
    obtain ⟨y0, y1, y2⟩ := tri_at rfl hG1
    go_wp2_with fail
    refine (Diatonic_any f s a o _ (HT.out.later (by (repeat' (first | (with_reducible exact G.refl _) | (with_reducible assumption) | (with_reducible refine G.drewN ?_ _) | (with_reducible refine G.drew ?_) | (with_reducible refine G.alloc ?_ _) | (with_reducible refine G.setCell ?_ (by first | (with_reducible exact Nat.le_refl _) | (simp; done) | (simp; omega) | omega) _) | (with_reducible refine G.trans ?_ (by assumption))))))).mono ?_
    rintro e w2 ⟨rfl, hG2⟩
    rw [HZ.out]
    go_wp2_with fail
    refine (known_any _ (HT.out.later (by (repeat' (first | (with_reducible exact G.refl _) | (with_reducible assumption) | (with_reducible refine G.drewN ?_ _) | (with_reducible refine G.drew ?_) | (with_reducible refine G.alloc ?_ _) | (with_reducible refine G.setCell ?_ (by first | (with_reducible exact Nat.le_refl _) | (simp; done) | (simp; omega) | omega) _) | (with_reducible refine G.trans ?_ (by assumption))))))).mono ?_
    rintro e w3 ⟨rfl, hG3⟩
    go_wp2_with fail
    refine (rIs_any f _).mono ?_
    rintro e w4 ⟨rfl, rfl⟩
    rw [decide_eq_false HS.out]
    go_wp2_with fail
    go_ret
    exact ⟨rfl, by (repeat' (first | (with_reducible exact G.refl _) | (with_reducible assumption) | (with_reducible refine G.drewN ?_ _) | (with_reducible refine G.drew ?_) | (with_reducible refine G.alloc ?_ _) | (with_reducible refine G.setCell ?_ (by first | (with_reducible exact Nat.le_refl _) | (simp; done) | (simp; omega) | omega) _) | (with_reducible refine G.trans ?_ (by assumption))))⟩

/-! ### the row and the card -/
open Go.ChangeShapes Go.WideShapes Go.ChangeAt Go.RowKit
set_option maxRecDepth 100000 in
theorem keyDegrees_lifted (os : Os) (started : os.Started) (H : Type) (enc : TypeId × Value → H) :
    ReturnsInHanded {} Tryd.checked os 10 .any (fun w args => (Rows.keyDegreesSpec.pre enc Tryd.prog Tryd.f10 [] false w args ∧ laidMetH Tryd.prog laidL w) ∧ sizedMet enc Tryd.prog Tryd.f10 (OpenSpec.ofChange Rows.keyDegreesSpec) false w args)
      (Rows.keyDegreesSpec.post enc Tryd.prog Tryd.f10 false true false false) := by
  refine returnsInHanded_of_change_and (C := Tryd.checked) (X := fun w _ => laidMetH Tryd.prog laidL w) (fun _ _ _ hh h => h.of_heap hh) own started (by kernel_rfl) Tryd.func10
    (ChangeSpec.witness_shaped (enc := enc) (C := Tryd.checked) (os := os) (X := fun w _ => laidMetH Tryd.prog laidL w) false (World.laidAll Tryd.prog os laidL) #[.int .i64 0, .agg #[.int .i64 0, .int .i64 0, .int .i64 0]] 8 (World.laidAll_os _ _ _) (shapedL os) (by kernel_rfl) (by kernel_rfl) (by kernel_rfl) (laid_met os _)) ?_
  intro W base args ds gs before hval0 hW _ _ hL _
  have hval : ∀ (j : Nat) t v, Tryd.f10.params[j]? = some t → args[j]? = some v → Value.okWide Tryd.prog W .any base t v := hval0
  have hW' := hW
  obtain ⟨p, q, hA0, hV, rfl, hfz, hnd⟩ := hW
  have hA : DataW.TrodAll enc Tryd.prog W 0 (fun _ => true) true Tryd.f10.params.toList args.toList ds p := hA0
  rw [Tryd.params10] at hA hval
  obtain ⟨v0, vs0, d0, ds0, p0, q0, hargs, rfl, rfl, h0, r0⟩ := trodAll_cons hA
  obtain ⟨v1, vs1, d1, ds1, p1, q1, rfl, rfl, rfl, h1, r1⟩ := trodAll_cons r0
  obtain ⟨rfl, rfl, rfl⟩ := trodAll_nil r1
  obtain rfl : args = #[v0, v1] := by cases args; simp_all
  obtain ⟨rfl, rfl⟩ := trodVars_none hV
  obtain ⟨a0, rfl, rfl, rfl, w0⟩ := open_int Tryd.underlying3 (hval 0 3 v0 rfl rfl) h0
  obtain ⟨bl0, bh0⟩ := bounds_i64 w0
  obtain ⟨a1, b1, c1, rfl, rfl, rfl, w1, u1, y1⟩ := open_pitch (hval 1 51 v1 rfl rfl) h1
  obtain ⟨al1, ah1⟩ := bounds_i64 w1
  obtain ⟨bl1, bh1⟩ := bounds_i64 u1
  obtain ⟨cl1, ch1⟩ := bounds_i64 y1
  clear hA0 hval0
  simp only [List.append_nil] at hW'
  refine (degrees_walk a0 a1 b1 c1 W bl0 bh0 al1 ah1 bl1 bh1 cl1 ch1  (tab_of_laid hL)).mono fun e W' ⟨he, hg⟩ => ?_
  subst he
  exact ⟨_, rfl, _, _, _, [], [], [], hW', (trodAll_cons_mk (shut_bool Tryd.underlying4 _) trodAll_mk0), (trodAll_cons_mk (shut_int Tryd.underlying3 w0) (trodAll_cons_mk (shut_pitch w1 u1 y1) trodAll_mk0)), rfl, Below.frame hg _, fun h => by cases h⟩

theorem keyDegrees_holds : Rows.KeyDegreesSaid :=
  OpenClaim.holds_of_wide 10 Tryd.f10 rfl rfl rfl rfl rfl rfl rfl ⟨rfl, rfl, rfl, rfl, rfl⟩ rfl rfl rfl rfl rfl (by kernel_rfl) Tryd.func10 (by kernel_rfl)
    (of_decide_eq_true (by kernel_rfl)) (by unfold Func.isWrapper; first | (rw [if_pos (by decide +kernel)]; kernel_rfl) | (rw [if_neg (by decide +kernel)]; exact ⟨rfl, rfl⟩))
    (fun os started H enc _ => keyDegrees_lifted os started H enc)

theorem keyDegrees_card : Rows.KeyDegreesCardSaid :=
  Claim7.holds_tied_plain_at .later [] [.data, .data] true (true, "2117eec5325c27370f2aa61ddd4a23a865e68bbc1d9bb0ef2c27e10075a20c79") false
    keyDegrees_holds (fun _ h => by cases h) (by kernel_rfl) (fun _ h => by cases h) keyDegrees_row_tie rfl ⟨rfl, rfl⟩ (by kernel_rfl) rfl
    (fun f fn hf hfn => by
      obtain rfl : f = 10 := Option.some.inj ((show Tryd.prog.funcNamed "hemiola/hemiolalaw07.KeyDegrees" = some 10 by kernel_rfl).symm.trans hf) |>.symm
      obtain rfl : fn = Tryd.f10 := (Option.some.inj (Tryd.func10.symm.trans hfn)).symm
      exact ⟨by kernel_rfl, fun j t ht => by
        rw [Tryd.params10] at ht
        have hm : t ∈ [3, 51] := by simpa using Array.mem_of_getElem? ht
        have hall : ([3, 51].all fun u => !Tryd.prog.wantsStandIn u) = true := by kernel_rfl
        exact (show Tryd.prog.wantsStandIn t = false by simpa using List.all_eq_true.1 hall t hm)⟩)
    (by kernel_rfl)
#print axioms keyDegrees_card
end Go.Proofs.YtdiokagnpiiijaaDoor
