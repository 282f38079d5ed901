/- KeyTransposes: for every number of fifths and every interval, Transpose returns the signature of the reference, or the error, and the way back leads to the same signature unless the first way was reduced; the arguments read as before; the tables that the row lists are tied to the program text; no further condition. -/
import Derived.Test.YtdiokagnpiiijaaDoorKnown
import Derived.Test.YtdiokagnpiiijaaDoorLaid
namespace Go.Proofs.YtdiokagnpiiijaaDoor
open Go.RowKit
attribute [local go_sem] World.cell?_alloc_some

set_option maxRecDepth 20000 in
set_option maxHeartbeats 3200000 in
theorem transposes_walk (f s t : Int) (w : World) (_ : -9223372036854775808 ≤ f) (_ : f ≤ 9223372036854775807) (_ : -9223372036854775808 ≤ s) (_ : s ≤ 9223372036854775807) (_ : -9223372036854775808 ≤ t) (_ : t ≤ 9223372036854775807) (hT : Tab w) :
    Calls Tryd.prog 8 #[.int .i64 f, .agg #[.int .i64 s, .int .i64 t]] w fun e w' => e = .returned (.bool true) ∧ G w w' := by
  have HT := Lib.hid hT
  clear hT
  by_cases h : Sg f
  · have HS := Lib.hid h
    by_cases hi : Iv s t
    · have HI := Lib.hid hi
      obtain ⟨f0, f1⟩ := h
      obtain ⟨⟨s0, s1⟩, t0, t1⟩ := hi
      obtain ⟨R, hR⟩ : ∃ z : Int, Hid (z = red (f + 7 * t - 12 * s)) := ⟨_, rfl⟩
      have rb := red_sg (f + 7 * t - 12 * s)
      rw [← hR.out] at rb
      obtain ⟨B, hB⟩ : ∃ z : Int, Hid (z = tr R (-s) (-t)) := ⟨_, rfl⟩
      have HE := Lib.hid (show te R (-s) (-t) = 0 by
        unfold te; rw [if_pos ⟨rb, by unfold Iv; omega⟩])
      have hor : B = f ∨ R ≠ f + 7 * t - 12 * s := by
        by_cases c : R = f + 7 * t - 12 * s
        · left
          rw [hB.out]; unfold tr
          rw [if_pos ⟨rb, by unfold Iv; omega⟩, show R + 7 * -t - 12 * -s = f by omega]
          exact red_in HS.out
        · exact .inr c
      obtain ⟨r0, r1⟩ := rb
      by_cases c : B = f
      · have hb : (B == f) = true := by rw [c]; simp
        clear c hor
        go_enter Tryd.func8, Tryd.ntmps8
        go_wp2_with fail
        refine (Transpose_ok f s t _ HS.out HI.out).mono ?_
        rintro e w1 ⟨rfl, hG1⟩
        rw [← hR.out]
        obtain ⟨y0, y1⟩ := two_at rfl hG1
        go_wp2_with fail
        refine (known_any _ (HT.out.later (by (repeat' (first | (with_reducible exact G.refl _) | (with_reducible assumption) | (with_reducible refine G.drewN ?_ _) | (with_reducible refine G.drew ?_) | (with_reducible refine G.alloc ?_ _) | (with_reducible refine G.setCell ?_ (by first | (with_reducible exact Nat.le_refl _) | (simp; done) | (simp; omega) | omega) _) | (with_reducible refine G.trans ?_ (by assumption))))))).mono ?_
        rintro e w2 ⟨rfl, hG2⟩
        have g2 := hG1.trans hG2
        replace y0 := hG2.at y0
        replace y1 := hG2.at y1
        go_wp2_with fail
        refine (rIs_any f _).mono ?_
        rintro e w3 ⟨rfl, rfl⟩
        rw [decide_eq_true HS.out]
        go_wp2_with fail
        refine (rTranspose_ok f s t _ HS.out HI.out).mono ?_
        rintro e w4 ⟨rfl, rfl⟩
        rw [← hR.out]
        go_wp2_with fail
        refine (Transpose_any R (-s) (-t) _).mono ?_
        rintro e w5 ⟨rfl, hG5⟩
        rw [← hB.out, HE.out]
        replace y0 := hG5.at y0
        replace y1 := hG5.at y1
        go_wp2_with fail
        go_ret
        exact ⟨rfl, by (repeat' (first | (with_reducible exact G.refl _) | (with_reducible assumption) | (with_reducible refine G.drewN ?_ _) | (with_reducible refine G.drew ?_) | (with_reducible refine G.alloc ?_ _) | (with_reducible refine G.setCell ?_ (by first | (with_reducible exact Nat.le_refl _) | (simp; done) | (simp; omega) | omega) _) | (with_reducible refine G.trans ?_ (by assumption))))⟩
      · have hb : (B == f) = false := beq_false_of_ne c
        have hr : R ≠ f + 7 * t - 12 * s := hor.resolve_left c
        have hb2 : (R == f + 7 * t - 12 * s) = false := beq_false_of_ne hr
        have hb3 : (R != f + 7 * t - 12 * s) = true := bne_iff_ne.2 hr
        clear c hor hr
        go_enter Tryd.func8, Tryd.ntmps8
        go_wp2_with fail
        refine (Transpose_ok f s t _ HS.out HI.out).mono ?_
        rintro e w1 ⟨rfl, hG1⟩
        rw [← hR.out]
        obtain ⟨y0, y1⟩ := two_at rfl hG1
        go_wp2_with fail
        refine (known_any _ (HT.out.later (by (repeat' (first | (with_reducible exact G.refl _) | (with_reducible assumption) | (with_reducible refine G.drewN ?_ _) | (with_reducible refine G.drew ?_) | (with_reducible refine G.alloc ?_ _) | (with_reducible refine G.setCell ?_ (by first | (with_reducible exact Nat.le_refl _) | (simp; done) | (simp; omega) | omega) _) | (with_reducible refine G.trans ?_ (by assumption))))))).mono ?_
        rintro e w2 ⟨rfl, hG2⟩
        have g2 := hG1.trans hG2
        replace y0 := hG2.at y0
        replace y1 := hG2.at y1
        go_wp2_with fail
        refine (rIs_any f _).mono ?_
        rintro e w3 ⟨rfl, rfl⟩
        rw [decide_eq_true HS.out]
        go_wp2_with fail
        refine (rTranspose_ok f s t _ HS.out HI.out).mono ?_
        rintro e w4 ⟨rfl, rfl⟩
        rw [← hR.out]
        go_wp2_with fail
        refine (Transpose_any R (-s) (-t) _).mono ?_
        rintro e w5 ⟨rfl, hG5⟩
        rw [← hB.out, HE.out]
        replace y0 := hG5.at y0
        replace y1 := hG5.at y1
        go_wp2_with fail
        go_ret
        exact ⟨rfl, by (repeat' (first | (with_reducible exact G.refl _) | (with_reducible assumption) | (with_reducible refine G.drewN ?_ _) | (with_reducible refine G.drew ?_) | (with_reducible refine G.alloc ?_ _) | (with_reducible refine G.setCell ?_ (by first | (with_reducible exact Nat.le_refl _) | (simp; done) | (simp; omega) | omega) _) | (with_reducible refine G.trans ?_ (by assumption))))⟩
    · have HI := Lib.hid hi
      clear h hi
      go_enter Tryd.func8, Tryd.ntmps8
      go_wp2_with fail
      refine (Transpose_iv f s t _ HS.out HI.out).mono ?_
      rintro e w1 ⟨rfl, hG1⟩
      obtain ⟨y0, y1⟩ := two_at rfl hG1
      go_wp2_with fail
      refine (known_any _ (HT.out.later (by (repeat' (first | (with_reducible exact G.refl _) | (with_reducible assumption) | (with_reducible refine G.drewN ?_ _) | (with_reducible refine G.drew ?_) | (with_reducible refine G.alloc ?_ _) | (with_reducible refine G.setCell ?_ (by first | (with_reducible exact Nat.le_refl _) | (simp; done) | (simp; omega) | omega) _) | (with_reducible refine G.trans ?_ (by assumption))))))).mono ?_
      rintro e w2 ⟨rfl, hG2⟩
      replace y0 := hG2.at y0
      replace y1 := hG2.at y1
      go_wp2_with fail
      refine (rIs_any f _).mono ?_
      rintro e w3 ⟨rfl, rfl⟩
      rw [decide_eq_true HS.out]
      go_wp2_with fail
      refine (rTranspose_iv f s t _ HI.out).mono ?_
      rintro e w4 ⟨rfl, rfl⟩
      go_wp2_with fail
      go_ret
      exact ⟨rfl, by (repeat' (first | (with_reducible exact G.refl _) | (with_reducible assumption) | (with_reducible refine G.drewN ?_ _) | (with_reducible refine G.drew ?_) | (with_reducible refine G.alloc ?_ _) | (with_reducible refine G.setCell ?_ (by first | (with_reducible exact Nat.le_refl _) | (simp; done) | (simp; omega) | omega) _) | (with_reducible refine G.trans ?_ (by assumption))))⟩
  · have HS := Lib.hid h
    clear h
    go_enter Tryd.func8, Tryd.ntmps8
    go_wp2_with fail
    refine (Transpose_sg f s t _ HS.out).mono ?_
    rintro e w1 ⟨rfl, hG1⟩
    go_wp2_with fail
    refine (known_any _ (HT.out.later (by (repeat' (first | (with_reducible exact G.refl _) | (with_reducible assumption) | (with_reducible refine G.drewN ?_ _) | (with_reducible refine G.drew ?_) | (with_reducible refine G.alloc ?_ _) | (with_reducible refine G.setCell ?_ (by first | (with_reducible exact Nat.le_refl _) | (simp; done) | (simp; omega) | omega) _) | (with_reducible refine G.trans ?_ (by assumption))))))).mono ?_
    rintro e w2 ⟨rfl, hG2⟩
    go_wp2_with fail
    refine (rIs_any f _).mono ?_
    rintro e w3 ⟨rfl, rfl⟩
    rw [decide_eq_false HS.out]
    go_wp2_with fail
    go_ret
    exact ⟨rfl, by (repeat' (first | (with_reducible exact G.refl _) | (with_reducible assumption) | (with_reducible refine G.drewN ?_ _) | (with_reducible refine G.drew ?_) | (with_reducible refine G.alloc ?_ _) | (with_reducible refine G.setCell ?_ (by first | (with_reducible exact Nat.le_refl _) | (simp; done) | (simp; omega) | omega) _) | (with_reducible refine G.trans ?_ (by assumption))))⟩

/-! ### the row and the card -/
open Go.ChangeShapes Go.WideShapes Go.ChangeAt Go.RowKit
set_option maxRecDepth 100000 in
theorem keyTransposes_lifted (os : Os) (started : os.Started) (H : Type) (enc : TypeId × Value → H) :
    ReturnsInHanded {} Tryd.checked os 8 .any (fun w args => (Rows.keyTransposesSpec.pre enc Tryd.prog Tryd.f8 [] false w args ∧ laidMetH Tryd.prog laidL w) ∧ sizedMet enc Tryd.prog Tryd.f8 (OpenSpec.ofChange Rows.keyTransposesSpec) false w args)
      (Rows.keyTransposesSpec.post enc Tryd.prog Tryd.f8 false true false false) := by
  refine returnsInHanded_of_change_and (C := Tryd.checked) (X := fun w _ => laidMetH Tryd.prog laidL w) (fun _ _ _ hh h => h.of_heap hh) own started (by kernel_rfl) Tryd.func8
    (ChangeSpec.witness_shaped (enc := enc) (C := Tryd.checked) (os := os) (X := fun w _ => laidMetH Tryd.prog laidL w) false (World.laidAll Tryd.prog os laidL) #[.int .i64 0, .agg #[.int .i64 0, .int .i64 0]] 8 (World.laidAll_os _ _ _) (shapedL os) (by kernel_rfl) (by kernel_rfl) (by kernel_rfl) (laid_met os _)) ?_
  intro W base args ds gs before hval0 hW _ _ hL _
  have hval : ∀ (j : Nat) t v, Tryd.f8.params[j]? = some t → args[j]? = some v → Value.okWide Tryd.prog W .any base t v := hval0
  have hW' := hW
  obtain ⟨p, q, hA0, hV, rfl, hfz, hnd⟩ := hW
  have hA : DataW.TrodAll enc Tryd.prog W 0 (fun _ => true) true Tryd.f8.params.toList args.toList ds p := hA0
  rw [Tryd.params8] at hA hval
  obtain ⟨v0, vs0, d0, ds0, p0, q0, hargs, rfl, rfl, h0, r0⟩ := trodAll_cons hA
  obtain ⟨v1, vs1, d1, ds1, p1, q1, rfl, rfl, rfl, h1, r1⟩ := trodAll_cons r0
  obtain ⟨rfl, rfl, rfl⟩ := trodAll_nil r1
  obtain rfl : args = #[v0, v1] := by cases args; simp_all
  obtain ⟨rfl, rfl⟩ := trodVars_none hV
  obtain ⟨a0, rfl, rfl, rfl, w0⟩ := open_int Tryd.underlying3 (hval 0 3 v0 rfl rfl) h0
  obtain ⟨bl0, bh0⟩ := bounds_i64 w0
  obtain ⟨a1, b1, rfl, rfl, rfl, w1, u1⟩ := open_iv (hval 1 62 v1 rfl rfl) h1
  obtain ⟨bl1, bh1⟩ := bounds_i64 w1
  obtain ⟨cl1, ch1⟩ := bounds_i64 u1
  clear hA0 hval0
  simp only [List.append_nil] at hW'
  refine (transposes_walk a0 a1 b1 W bl0 bh0 bl1 bh1 cl1 ch1  (tab_of_laid hL)).mono fun e W' ⟨he, hg⟩ => ?_
  subst he
  exact ⟨_, rfl, _, _, _, [], [], [], hW', (trodAll_cons_mk (shut_bool Tryd.underlying4 _) trodAll_mk0), (trodAll_cons_mk (shut_int Tryd.underlying3 w0) (trodAll_cons_mk (shut_iv w1 u1) trodAll_mk0)), rfl, Below.frame hg _, fun h => by cases h⟩

theorem keyTransposes_holds : Rows.KeyTransposesSaid :=
  OpenClaim.holds_of_wide 8 Tryd.f8 rfl rfl rfl rfl rfl rfl rfl ⟨rfl, rfl, rfl, rfl, rfl⟩ rfl rfl rfl rfl rfl (by kernel_rfl) Tryd.func8 (by kernel_rfl)
    (of_decide_eq_true (by kernel_rfl)) (by unfold Func.isWrapper; first | (rw [if_pos (by decide +kernel)]; kernel_rfl) | (rw [if_neg (by decide +kernel)]; exact ⟨rfl, rfl⟩))
    (fun os started H enc _ => keyTransposes_lifted os started H enc)

theorem keyTransposes_card : Rows.KeyTransposesCardSaid :=
  Claim7.holds_tied_plain_at .later [] [.data, .data] true (true, "2117eec5325c27370f2aa61ddd4a23a865e68bbc1d9bb0ef2c27e10075a20c79") false
    keyTransposes_holds (fun _ h => by cases h) (by kernel_rfl) (fun _ h => by cases h) keyTransposes_row_tie rfl ⟨rfl, rfl⟩ (by kernel_rfl) rfl
    (fun f fn hf hfn => by
      obtain rfl : f = 8 := Option.some.inj ((show Tryd.prog.funcNamed "hemiola/hemiolalaw07.KeyTransposes" = some 8 by kernel_rfl).symm.trans hf) |>.symm
      obtain rfl : fn = Tryd.f8 := (Option.some.inj (Tryd.func8.symm.trans hfn)).symm
      exact ⟨by kernel_rfl, fun j t ht => by
        rw [Tryd.params8] at ht
        have hm : t ∈ [3, 62] := by simpa using Array.mem_of_getElem? ht
        have hall : ([3, 62].all fun u => !Tryd.prog.wantsStandIn u) = true := by kernel_rfl
        exact (show Tryd.prog.wantsStandIn t = false by simpa using List.all_eq_true.1 hall t hm)⟩)
    (by kernel_rfl)
#print axioms keyTransposes_card
end Go.Proofs.YtdiokagnpiiijaaDoor
