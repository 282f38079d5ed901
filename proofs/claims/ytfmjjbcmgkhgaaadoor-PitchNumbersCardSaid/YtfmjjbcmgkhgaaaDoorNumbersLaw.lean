/- PitchNumbers: for every pitch, Check, Number, Diatonic and Fifths return what the reference says, or 0 and ErrPitch; the pitch reads as before; the tables and variables that the row lists are tied to the program text; no further condition. -/
import Derived.Test.YtfmjjbcmgkhgaaaDoorArg
import Derived.Test.YtfmjjbcmgkhgaaaDoorRef1
namespace Go.Proofs.YtfmjjbcmgkhgaaaDoor
open Go.RowKit
attribute [local go_sem] World.cell?_alloc_some

set_option maxRecDepth 20000 in
set_option maxHeartbeats 3200000 in
theorem numbers_walk (s a o : Int) (w : World) (hT : Tab w ∧ Plc w) :
    Calls Tryd.prog 3 #[.agg #[.int .i64 s, .int .i64 a, .int .i64 o]] w fun e w' => e = .returned (.bool true) ∧ G w w' := by
  have HT := Lib.hid hT.1
  have HP := Lib.hid hT.2
  clear hT
  by_cases h : Ok s a o
  · have HO := Lib.hid h
    clear h
    obtain ⟨n, HN⟩ : ∃ z : Int, Hid (z = ht s a o) := ⟨_, rfl⟩
    obtain ⟨d, HD⟩ : ∃ z : Int, Hid (z = 7 * o + s) := ⟨_, rfl⟩
    obtain ⟨q, HQ⟩ : ∃ z : Int, Hid (z = Q s + 7 * a) := ⟨_, rfl⟩
    go_enter Tryd.func3, Tryd.ntmps3
    go_wp2_with fail
    refine (Number_any s a o _ (HT.out.later (by (repeat' (first | (with_reducible exact G.refl _) | (with_reducible assumption) | (with_reducible refine G.drewN ?_ _) | (with_reducible refine G.drew ?_) | (with_reducible refine G.alloc ?_ _) | (with_reducible refine G.setCell ?_ (by first | (with_reducible exact Nat.le_refl _) | (simp; done) | (simp; omega) | omega) _) | (with_reducible refine G.trans ?_ (by assumption)))))).hts).mono ?_
    rintro e w1 ⟨rfl, hG1⟩
    rw [er_ok HO.out, if_pos HO.out, ← HN.out]
    obtain ⟨y0, y1, y2⟩ := tri_later hG1
    go_wp2_with fail
    refine (Diatonic_any s a o _ (HT.out.later (by (repeat' (first | (with_reducible exact G.refl _) | (with_reducible assumption) | (with_reducible refine G.drewN ?_ _) | (with_reducible refine G.drew ?_) | (with_reducible refine G.alloc ?_ _) | (with_reducible refine G.setCell ?_ (by first | (with_reducible exact Nat.le_refl _) | (simp; done) | (simp; omega) | omega) _) | (with_reducible refine G.trans ?_ (by assumption)))))).hts).mono ?_
    rintro e w2 ⟨rfl, hG2⟩
    rw [er_ok HO.out, if_pos HO.out, ← HD.out]
    replace hG2 := hG1.trans hG2
    clear y0 y1 y2
    obtain ⟨y0, y1, y2⟩ := tri_later hG2
    clear hG1
    go_wp2_with fail
    refine (Fifths_any s a o _ (HT.out.later (by (repeat' (first | (with_reducible exact G.refl _) | (with_reducible assumption) | (with_reducible refine G.drewN ?_ _) | (with_reducible refine G.drew ?_) | (with_reducible refine G.alloc ?_ _) | (with_reducible refine G.setCell ?_ (by first | (with_reducible exact Nat.le_refl _) | (simp; done) | (simp; omega) | omega) _) | (with_reducible refine G.trans ?_ (by assumption)))))).hts (HP.out.later (by (repeat' (first | (with_reducible exact G.refl _) | (with_reducible assumption) | (with_reducible refine G.drewN ?_ _) | (with_reducible refine G.drew ?_) | (with_reducible refine G.alloc ?_ _) | (with_reducible refine G.setCell ?_ (by first | (with_reducible exact Nat.le_refl _) | (simp; done) | (simp; omega) | omega) _) | (with_reducible refine G.trans ?_ (by assumption))))))).mono ?_
    rintro e w3 ⟨rfl, hG3⟩
    rw [er_ok HO.out, if_pos HO.out, ← HQ.out]
    replace hG3 := hG2.trans hG3
    clear y0 y1 y2
    obtain ⟨y0, y1, y2⟩ := tri_later hG3
    clear hG2
    go_wp2_with fail
    refine (known_any _ (HT.out.later (by (repeat' (first | (with_reducible exact G.refl _) | (with_reducible assumption) | (with_reducible refine G.drewN ?_ _) | (with_reducible refine G.drew ?_) | (with_reducible refine G.alloc ?_ _) | (with_reducible refine G.setCell ?_ (by first | (with_reducible exact Nat.le_refl _) | (simp; done) | (simp; omega) | omega) _) | (with_reducible refine G.trans ?_ (by assumption))))))).mono ?_
    rintro e w4 ⟨rfl, hG4⟩
    replace hG4 := hG3.trans hG4
    clear y0 y1 y2
    obtain ⟨y0, y1, y2⟩ := tri_later hG4
    clear hG3
    go_wp2_with fail
    refine (rExists_any s a o _).mono ?_
    rintro e w5 ⟨rfl, hG5⟩
    rw [decide_eq_true HO.out]
    replace hG5 := hG4.trans hG5
    clear y0 y1 y2
    obtain ⟨y0, y1, y2⟩ := tri_later hG5
    clear hG4
    go_wp2_with fail
    refine (Check_any s a o _ (HT.out.later (by (repeat' (first | (with_reducible exact G.refl _) | (with_reducible assumption) | (with_reducible refine G.drewN ?_ _) | (with_reducible refine G.drew ?_) | (with_reducible refine G.alloc ?_ _) | (with_reducible refine G.setCell ?_ (by first | (with_reducible exact Nat.le_refl _) | (simp; done) | (simp; omega) | omega) _) | (with_reducible refine G.trans ?_ (by assumption)))))).hts).mono ?_
    rintro e w6 ⟨rfl, hG6⟩
    rw [er_ok HO.out]
    replace hG6 := hG5.trans hG6
    clear y0 y1 y2
    obtain ⟨y0, y1, y2⟩ := tri_later hG6
    clear hG5
    go_wp2_with fail
    refine (rNumber_any s a o _ HO.out.1).mono ?_
    rintro e w7 ⟨rfl, hG7⟩
    rw [← HN.out]
    replace hG7 := hG6.trans hG7
    clear y0 y1 y2
    obtain ⟨y0, y1, y2⟩ := tri_later hG7
    clear hG6
    go_wp2_with fail
    refine (rDiatonic_any s a o _ HO.out.1).mono ?_
    rintro e w8 ⟨rfl, hG8⟩
    rw [← HD.out]
    replace hG8 := hG7.trans hG8
    clear y0 y1 y2
    obtain ⟨y0, y1, y2⟩ := tri_later hG8
    clear hG7
    go_wp2_with fail
    refine (rFifths_any s a o _ HO.out.1).mono ?_
    rintro e w9 ⟨rfl, hG9⟩
    rw [← HQ.out]
    replace hG9 := hG8.trans hG9
    clear y0 y1 y2
    clear hG8
    go_wp2_with fail
    go_ret
    exact ⟨rfl, by (repeat' (first | (with_reducible exact G.refl _) | (with_reducible assumption) | (with_reducible refine G.drewN ?_ _) | (with_reducible refine G.drew ?_) | (with_reducible refine G.alloc ?_ _) | (with_reducible refine G.setCell ?_ (by first | (with_reducible exact Nat.le_refl _) | (simp; done) | (simp; omega) | omega) _) | (with_reducible refine G.trans ?_ (by assumption))))⟩
  · have HO := Lib.hid h
    clear h
    go_enter Tryd.func3, Tryd.ntmps3
    go_wp2_with fail
    refine (Number_any s a o _ (HT.out.later (by (repeat' (first | (with_reducible exact G.refl _) | (with_reducible assumption) | (with_reducible refine G.drewN ?_ _) | (with_reducible refine G.drew ?_) | (with_reducible refine G.alloc ?_ _) | (with_reducible refine G.setCell ?_ (by first | (with_reducible exact Nat.le_refl _) | (simp; done) | (simp; omega) | omega) _) | (with_reducible refine G.trans ?_ (by assumption)))))).hts).mono ?_
    rintro e w1 ⟨rfl, hG1⟩
    rw [er_bad HO.out, if_neg HO.out]
    obtain ⟨y0, y1, y2⟩ := tri_later hG1
    go_wp2_with fail
    refine (Diatonic_any s a o _ (HT.out.later (by (repeat' (first | (with_reducible exact G.refl _) | (with_reducible assumption) | (with_reducible refine G.drewN ?_ _) | (with_reducible refine G.drew ?_) | (with_reducible refine G.alloc ?_ _) | (with_reducible refine G.setCell ?_ (by first | (with_reducible exact Nat.le_refl _) | (simp; done) | (simp; omega) | omega) _) | (with_reducible refine G.trans ?_ (by assumption)))))).hts).mono ?_
    rintro e w2 ⟨rfl, hG2⟩
    rw [er_bad HO.out, if_neg HO.out]
    replace hG2 := hG1.trans hG2
    clear y0 y1 y2
    obtain ⟨y0, y1, y2⟩ := tri_later hG2
    clear hG1
    go_wp2_with fail
    refine (Fifths_any s a o _ (HT.out.later (by (repeat' (first | (with_reducible exact G.refl _) | (with_reducible assumption) | (with_reducible refine G.drewN ?_ _) | (with_reducible refine G.drew ?_) | (with_reducible refine G.alloc ?_ _) | (with_reducible refine G.setCell ?_ (by first | (with_reducible exact Nat.le_refl _) | (simp; done) | (simp; omega) | omega) _) | (with_reducible refine G.trans ?_ (by assumption)))))).hts (HP.out.later (by (repeat' (first | (with_reducible exact G.refl _) | (with_reducible assumption) | (with_reducible refine G.drewN ?_ _) | (with_reducible refine G.drew ?_) | (with_reducible refine G.alloc ?_ _) | (with_reducible refine G.setCell ?_ (by first | (with_reducible exact Nat.le_refl _) | (simp; done) | (simp; omega) | omega) _) | (with_reducible refine G.trans ?_ (by assumption))))))).mono ?_
    rintro e w3 ⟨rfl, hG3⟩
    rw [er_bad HO.out, if_neg HO.out]
    replace hG3 := hG2.trans hG3
    clear y0 y1 y2
    obtain ⟨y0, y1, y2⟩ := tri_later hG3
    clear hG2
    go_wp2_with fail
    refine (known_any _ (HT.out.later (by (repeat' (first | (with_reducible exact G.refl _) | (with_reducible assumption) | (with_reducible refine G.drewN ?_ _) | (with_reducible refine G.drew ?_) | (with_reducible refine G.alloc ?_ _) | (with_reducible refine G.setCell ?_ (by first | (with_reducible exact Nat.le_refl _) | (simp; done) | (simp; omega) | omega) _) | (with_reducible refine G.trans ?_ (by assumption))))))).mono ?_
    rintro e w4 ⟨rfl, hG4⟩
    replace hG4 := hG3.trans hG4
    clear y0 y1 y2
    obtain ⟨y0, y1, y2⟩ := tri_later hG4
    clear hG3
    go_wp2_with fail
    refine (rExists_any s a o _).mono ?_
    rintro e w5 ⟨rfl, hG5⟩
    rw [decide_eq_false HO.out]
    replace hG5 := hG4.trans hG5
    clear y0 y1 y2
    obtain ⟨y0, y1, y2⟩ := tri_later hG5
    clear hG4
    go_wp2_with fail
    refine (Check_any s a o _ (HT.out.later (by (repeat' (first | (with_reducible exact G.refl _) | (with_reducible assumption) | (with_reducible refine G.drewN ?_ _) | (with_reducible refine G.drew ?_) | (with_reducible refine G.alloc ?_ _) | (with_reducible refine G.setCell ?_ (by first | (with_reducible exact Nat.le_refl _) | (simp; done) | (simp; omega) | omega) _) | (with_reducible refine G.trans ?_ (by assumption)))))).hts).mono ?_
    rintro e w6 ⟨rfl, hG6⟩
    rw [er_bad HO.out]
    replace hG6 := hG5.trans hG6
    clear y0 y1 y2 hG5
    go_wp2_with fail
    go_ret
    exact ⟨rfl, by (repeat' (first | (with_reducible exact G.refl _) | (with_reducible assumption) | (with_reducible refine G.drewN ?_ _) | (with_reducible refine G.drew ?_) | (with_reducible refine G.alloc ?_ _) | (with_reducible refine G.setCell ?_ (by first | (with_reducible exact Nat.le_refl _) | (simp; done) | (simp; omega) | omega) _) | (with_reducible refine G.trans ?_ (by assumption))))⟩

theorem numbers_walk' (s a o : Int) (w : World) (_ : -9223372036854775808 ≤ s) (_ : s ≤ 9223372036854775807) (_ : -9223372036854775808 ≤ a) (_ : a ≤ 9223372036854775807) (_ : -9223372036854775808 ≤ o) (_ : o ≤ 9223372036854775807) (hT : Tab w ∧ Plc w) :
    Calls Tryd.prog 3 #[.agg #[.int .i64 s, .int .i64 a, .int .i64 o]] w fun e w' => e = .returned (.bool true) ∧ G w w' := numbers_walk s a o w hT

/-! ### the row and the card -/
open Go.ChangeShapes Go.WideShapes Go.ChangeAt Go.RowKit
set_option maxRecDepth 100000 in
theorem pitchNumbers_lifted (os : Os) (started : os.Started) (H : Type) (enc : TypeId × Value → H) :
    ReturnsInHanded {} Tryd.checked os 3 .any (fun w args => (Rows.pitchNumbersSpec.pre enc Tryd.prog Tryd.f3 [] false w args ∧ laidMetH Tryd.prog laidP w) ∧ sizedMet enc Tryd.prog Tryd.f3 (OpenSpec.ofChange Rows.pitchNumbersSpec) false w args)
      (Rows.pitchNumbersSpec.post enc Tryd.prog Tryd.f3 false true false false) := by
  refine returnsInHanded_of_change_and (C := Tryd.checked) (X := fun w _ => laidMetH Tryd.prog laidP w) (fun _ _ _ hh h => h.of_heap hh) own started (by kernel_rfl) Tryd.func3
    (ChangeSpec.witness_shaped (enc := enc) (C := Tryd.checked) (os := os) (X := fun w _ => laidMetH Tryd.prog laidP w) false (World.laidAll Tryd.prog os laidP) #[.agg #[.int .i64 0, .int .i64 0, .int .i64 0]] 8 (World.laidAll_os _ _ _) (shapedP os) (by kernel_rfl) (by kernel_rfl) (by kernel_rfl) (laid_metP os _)) ?_
  intro W base args ds gs before hval0 hW _ _ hL _
  have hval : ∀ (j : Nat) t v, Tryd.f3.params[j]? = some t → args[j]? = some v → Value.okWide Tryd.prog W .any base t v := hval0
  have hW' := hW
  obtain ⟨p, q, hA0, hV, rfl, hfz, hnd⟩ := hW
  have hA : DataW.TrodAll enc Tryd.prog W 0 (fun _ => true) true Tryd.f3.params.toList args.toList ds p := hA0
  rw [Tryd.params3] at hA hval
  obtain ⟨v0, vs0, d0, ds0, p0, q0, hargs, rfl, rfl, h0, r0⟩ := trodAll_cons hA
  obtain ⟨rfl, rfl, rfl⟩ := trodAll_nil r0
  obtain rfl : args = #[v0] := by cases args; simp_all
  obtain ⟨rfl, rfl⟩ := trodVars_none hV
  obtain ⟨a0, b0, c0, rfl, rfl, rfl, w0, u0, y0⟩ := open_pitch (hval 0 23 v0 rfl rfl) h0
  obtain ⟨al0, ah0⟩ := bounds_i64 w0
  obtain ⟨bl0, bh0⟩ := bounds_i64 u0
  obtain ⟨cl0, ch0⟩ := bounds_i64 y0
  clear hA0 hval0
  simp only [List.append_nil] at hW'
  refine (numbers_walk' a0 b0 c0 W al0 ah0 bl0 bh0 cl0 ch0  (tab_of_laidP hL)).mono fun e W' ⟨he, hg⟩ => ?_
  subst he
  exact ⟨_, rfl, _, _, _, [], [], [], hW', (trodAll_cons_mk (shut_bool Tryd.underlying4 _) trodAll_mk0), (trodAll_cons_mk (shut_pitch w0 u0 y0) trodAll_mk0), rfl, Below.frame hg _, fun h => by cases h⟩

theorem pitchNumbers_holds : Rows.PitchNumbersSaid :=
  OpenClaim.holds_of_wide 3 Tryd.f3 rfl rfl rfl rfl rfl rfl rfl ⟨rfl, rfl, rfl, rfl, rfl⟩ rfl rfl rfl rfl rfl (by kernel_rfl) Tryd.func3 (by kernel_rfl)
    (of_decide_eq_true (by kernel_rfl)) (by unfold Func.isWrapper; first | (rw [if_pos (by decide +kernel)]; kernel_rfl) | (rw [if_neg (by decide +kernel)]; exact ⟨rfl, rfl⟩))
    (fun os started H enc _ => pitchNumbers_lifted os started H enc)

theorem pitchNumbers_card : Rows.PitchNumbersCardSaid :=
  Claim7.holds_tied_plain_at .later [] [.data, .data, .data, .data, .sentinel, .sentinel, .data, .data, .data, .pinned] true (true, "d397597ffcaddd10c3aead99d9a1c2c62e92eb3a05e458798d7d01250ca48297") true
    pitchNumbers_holds (fun _ h => by cases h) (by kernel_rfl) (fun _ h => by cases h) pitchNumbers_row_tie rfl ⟨rfl, rfl⟩ (by kernel_rfl) rfl
    (fun f fn hf hfn => by
      obtain rfl : f = 3 := Option.some.inj ((show Tryd.prog.funcNamed "hemiola/hemiolalaw05.PitchNumbers" = some 3 by kernel_rfl).symm.trans hf) |>.symm
      obtain rfl : fn = Tryd.f3 := (Option.some.inj (Tryd.func3.symm.trans hfn)).symm
      exact ⟨by kernel_rfl, fun j t ht => by
        rw [Tryd.params3] at ht
        have hm : t ∈ [23] := by simpa using Array.mem_of_getElem? ht
        have hall : ([23].all fun u => !Tryd.prog.wantsStandIn u) = true := by kernel_rfl
        exact (show Tryd.prog.wantsStandIn t = false by simpa using List.all_eq_true.1 hall t hm)⟩)
    (by kernel_rfl)
#print axioms pitchNumbers_card
end Go.Proofs.YtfmjjbcmgkhgaaaDoor
