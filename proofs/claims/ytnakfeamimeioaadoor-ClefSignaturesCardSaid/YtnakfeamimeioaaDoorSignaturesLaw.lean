/- ClefSignatures: for every clef number and every number of fifths, Signature returns the positions of the reference, or the error; the arguments read as before; the tables that the row lists are tied to the program text; no further condition. -/
import Derived.Test.YtnakfeamimeioaaDoorKnown
import Derived.Test.YtnakfeamimeioaaDoorLaid
import Derived.Test.YtnakfeamimeioaaDoorC8
namespace Go.Proofs.YtnakfeamimeioaaDoor
open Go.RowKit
attribute [local go_sem] World.cell?_alloc_some

set_option maxRecDepth 100000 in
set_option maxHeartbeats 3200000 in
theorem signatures_walk (c f : Int) (w : World) (_ : -9223372036854775808 ≤ c) (_ : c ≤ 9223372036854775807) (_ : -9223372036854775808 ≤ f) (_ : f ≤ 9223372036854775807) (hT : Tab w) :
    Calls Tryd.prog 8 #[.int .i64 c, .int .i64 f] w fun e w' => e = .returned (.bool true) ∧ G w w' := by
  have HT := Lib.hid hT
  clear hT
  by_cases h : Cf c
  · have HC := Lib.hid h
    have HC2 := Lib.hid (decide_eq_true h)
    by_cases k : Sg f
    · have HF := Lib.hid k
      have HL := Lib.hid (sgL_len (c := c) k)
      obtain ⟨f0, f1⟩ := k
      clear h
      go_enter Tryd.func8, Tryd.ntmps8
      go_wp2_with fail
      refine (known_any _ (HT.out.later (by (repeat' (first | (with_reducible exact G.refl _) | (with_reducible assumption) | (with_reducible refine G.drewN ?_ _) | (with_reducible refine G.drew ?_) | (with_reducible refine G.alloc ?_ _) | (with_reducible refine G.setCell ?_ (by first | (with_reducible exact Nat.le_refl _) | (simp; done) | (simp; omega) | omega) _) | (with_reducible refine G.trans ?_ (by assumption))))))).mono ?_
      rintro e w1 ⟨rfl, hG1⟩
      go_wp2_with fail
      refine (Signature_ok c f _ HC.out HF.out (HT.out.later (by (repeat' (first | (with_reducible exact G.refl _) | (with_reducible assumption) | (with_reducible refine G.drewN ?_ _) | (with_reducible refine G.drew ?_) | (with_reducible refine G.alloc ?_ _) | (with_reducible refine G.setCell ?_ (by first | (with_reducible exact Nat.le_refl _) | (simp; done) | (simp; omega) | omega) _) | (with_reducible refine G.trans ?_ (by assumption))))))).mono ?_
      rintro e w2 ⟨v, rfl, hA⟩
      have hG2 := hA.2
      have L1 := hA.lies
      go_wp2_with fail
      refine (rValid_any c _).mono ?_
      rintro e w3 ⟨rfl, rfl⟩
      rw [HC2.out]
      go_wp2_with fail
      refine (rSignature_any c f _ HC.out HF.out).mono ?_
      rintro e w3 ⟨v2, rfl, hA2⟩
      have hG3 := hA2.2
      have L2 := hA2.lies
      replace L1 := L1.later hG3
      go_wp2_with fail
      refine (numbers_eq v v2 _ _ L1 L2 HL.out).mono ?_
      rintro e w4 ⟨rfl, hG4⟩
      go_wp2_with fail
      go_ret
      exact ⟨by first | rfl | simp, by (repeat' (first | (with_reducible exact G.refl _) | (with_reducible assumption) | (with_reducible refine G.drewN ?_ _) | (with_reducible refine G.drew ?_) | (with_reducible refine G.alloc ?_ _) | (with_reducible refine G.setCell ?_ (by first | (with_reducible exact Nat.le_refl _) | (simp; done) | (simp; omega) | omega) _) | (with_reducible refine G.trans ?_ (by assumption))))⟩
    · have HF := Lib.hid k
      have hf2 : f < -7 ∨ (-7 ≤ f ∧ 7 < f) := by unfold Sg at k; omega
      clear h k
      rcases hf2 with k | ⟨k, k2⟩
      all_goals
        go_enter Tryd.func8, Tryd.ntmps8
        go_wp2_with fail
        refine (known_any _ (HT.out.later (by (repeat' (first | (with_reducible exact G.refl _) | (with_reducible assumption) | (with_reducible refine G.drewN ?_ _) | (with_reducible refine G.drew ?_) | (with_reducible refine G.alloc ?_ _) | (with_reducible refine G.setCell ?_ (by first | (with_reducible exact Nat.le_refl _) | (simp; done) | (simp; omega) | omega) _) | (with_reducible refine G.trans ?_ (by assumption))))))).mono ?_
        rintro e w1 ⟨rfl, hG1⟩
        go_wp2_with fail
        refine (Signature_bad2 c f _ HC.out HF.out (HT.out.later (by (repeat' (first | (with_reducible exact G.refl _) | (with_reducible assumption) | (with_reducible refine G.drewN ?_ _) | (with_reducible refine G.drew ?_) | (with_reducible refine G.alloc ?_ _) | (with_reducible refine G.setCell ?_ (by first | (with_reducible exact Nat.le_refl _) | (simp; done) | (simp; omega) | omega) _) | (with_reducible refine G.trans ?_ (by assumption))))))).mono ?_
        rintro e w2 ⟨rfl, hG2⟩
        go_wp2_with fail
        refine (rValid_any c _).mono ?_
        rintro e w3 ⟨rfl, rfl⟩
        rw [HC2.out]
        go_wp2_with fail
        go_ret
        exact ⟨by first | rfl | simp, by (repeat' (first | (with_reducible exact G.refl _) | (with_reducible assumption) | (with_reducible refine G.drewN ?_ _) | (with_reducible refine G.drew ?_) | (with_reducible refine G.alloc ?_ _) | (with_reducible refine G.setCell ?_ (by first | (with_reducible exact Nat.le_refl _) | (simp; done) | (simp; omega) | omega) _) | (with_reducible refine G.trans ?_ (by assumption))))⟩
  · have HC := Lib.hid h
    have HC2 := Lib.hid (decide_eq_false h)
    clear h
    go_enter Tryd.func8, Tryd.ntmps8
    go_wp2_with fail
    refine (known_any _ (HT.out.later (by (repeat' (first | (with_reducible exact G.refl _) | (with_reducible assumption) | (with_reducible refine G.drewN ?_ _) | (with_reducible refine G.drew ?_) | (with_reducible refine G.alloc ?_ _) | (with_reducible refine G.setCell ?_ (by first | (with_reducible exact Nat.le_refl _) | (simp; done) | (simp; omega) | omega) _) | (with_reducible refine G.trans ?_ (by assumption))))))).mono ?_
    rintro e w1 ⟨rfl, hG1⟩
    go_wp2_with fail
    refine (Signature_bad1 c f _ HC.out).mono ?_
    rintro e w2 ⟨rfl, hG2⟩
    go_wp2_with fail
    refine (rValid_any c _).mono ?_
    rintro e w3 ⟨rfl, rfl⟩
    rw [HC2.out]
    go_wp2_with fail
    go_ret
    exact ⟨by first | rfl | simp, by (repeat' (first | (with_reducible exact G.refl _) | (with_reducible assumption) | (with_reducible refine G.drewN ?_ _) | (with_reducible refine G.drew ?_) | (with_reducible refine G.alloc ?_ _) | (with_reducible refine G.setCell ?_ (by first | (with_reducible exact Nat.le_refl _) | (simp; done) | (simp; omega) | omega) _) | (with_reducible refine G.trans ?_ (by assumption))))⟩

/-! ### the row and the card -/
open Go.ChangeShapes Go.WideShapes Go.ChangeAt Go.RowKit
set_option maxRecDepth 100000 in
theorem clefSignatures_lifted (os : Os) (started : os.Started) (H : Type) (enc : TypeId × Value → H) :
    ReturnsInHanded {} Tryd.checked os 8 .any (fun w args => (Rows.clefSignaturesSpec.pre enc Tryd.prog Tryd.f8 [] false w args ∧ laidMetH Tryd.prog laidL w) ∧ sizedMet enc Tryd.prog Tryd.f8 (OpenSpec.ofChange Rows.clefSignaturesSpec) false w args)
      (Rows.clefSignaturesSpec.post enc Tryd.prog Tryd.f8 false true false false) := by
  refine returnsInHanded_of_change_and (C := Tryd.checked) (X := fun w _ => laidMetH Tryd.prog laidL w) (fun _ _ _ hh h => h.of_heap hh) own started (by kernel_rfl) Tryd.func8
    (ChangeSpec.witness_shaped (enc := enc) (C := Tryd.checked) (os := os) (X := fun w _ => laidMetH Tryd.prog laidL w) false (World.laidAll Tryd.prog os laidL) #[.int .i64 0, .int .i64 0] 8 (World.laidAll_os _ _ _) (shapedL os) (by kernel_rfl) (by kernel_rfl) (by kernel_rfl) (laid_met os _)) ?_
  intro W base args ds gs before hval0 hW _ _ hL _
  have hval : ∀ (j : Nat) t v, Tryd.f8.params[j]? = some t → args[j]? = some v → Value.okWide Tryd.prog W .any base t v := hval0
  have hW' := hW
  obtain ⟨p, q, hA0, hV, rfl, hfz, hnd⟩ := hW
  have hA : DataW.TrodAll enc Tryd.prog W 0 (fun _ => true) true Tryd.f8.params.toList args.toList ds p := hA0
  rw [Tryd.params8] at hA hval
  obtain ⟨v0, vs0, d0, ds0, p0, q0, hargs, rfl, rfl, h0, r0⟩ := trodAll_cons hA
  obtain ⟨v1, vs1, d1, ds1, p1, q1, rfl, rfl, rfl, h1, r1⟩ := trodAll_cons r0
  obtain ⟨rfl, rfl, rfl⟩ := trodAll_nil r1
  obtain rfl : args = #[v0, v1] := by cases args; simp_all
  obtain ⟨rfl, rfl⟩ := trodVars_none hV
  obtain ⟨a0, rfl, rfl, rfl, w0⟩ := open_int Tryd.underlying3 (hval 0 3 v0 rfl rfl) h0
  obtain ⟨bl0, bh0⟩ := bounds_i64 w0
  obtain ⟨a1, rfl, rfl, rfl, w1⟩ := open_int Tryd.underlying3 (hval 1 3 v1 rfl rfl) h1
  obtain ⟨bl1, bh1⟩ := bounds_i64 w1
  clear hA0 hval0
  simp only [List.append_nil] at hW'
  refine (signatures_walk a0 a1 W bl0 bh0 bl1 bh1  (tab_of_laid hL)).mono fun e W' ⟨he, hg⟩ => ?_
  subst he
  exact ⟨_, rfl, _, _, _, [], [], [], hW', (trodAll_cons_mk (shut_bool Tryd.underlying4 _) trodAll_mk0), (trodAll_cons_mk (shut_int Tryd.underlying3 w0) (trodAll_cons_mk (shut_int Tryd.underlying3 w1) trodAll_mk0)), rfl, Below.frame hg _, fun h => by cases h⟩

theorem clefSignatures_holds : Rows.ClefSignaturesSaid :=
  OpenClaim.holds_of_wide 8 Tryd.f8 rfl rfl rfl rfl rfl rfl rfl ⟨rfl, rfl, rfl, rfl, rfl⟩ rfl rfl rfl rfl rfl (by kernel_rfl) Tryd.func8 (by kernel_rfl)
    (of_decide_eq_true (by kernel_rfl)) (by unfold Func.isWrapper; first | (rw [if_pos (by decide +kernel)]; kernel_rfl) | (rw [if_neg (by decide +kernel)]; exact ⟨rfl, rfl⟩))
    (fun os started H enc _ => clefSignatures_lifted os started H enc)

theorem clefSignatures_card : Rows.ClefSignaturesCardSaid :=
  Claim7.holds_tied_plain_at .later [] [.data, .data, .data] true (true, "ae3d3630bcff25fd33e59354a4ec782dc285709024c716b55dd2ba349c01efa0") false
    clefSignatures_holds (fun _ h => by cases h) (by kernel_rfl) (fun _ h => by cases h) clefSignatures_row_tie rfl ⟨rfl, rfl⟩ (by kernel_rfl) rfl
    (fun f fn hf hfn => by
      obtain rfl : f = 8 := Option.some.inj ((show Tryd.prog.funcNamed "hemiola/hemiolalaw08.ClefSignatures" = some 8 by kernel_rfl).symm.trans hf) |>.symm
      obtain rfl : fn = Tryd.f8 := (Option.some.inj (Tryd.func8.symm.trans hfn)).symm
      exact ⟨by kernel_rfl, fun j t ht => by
        rw [Tryd.params8] at ht
        have hm : t ∈ [3, 3] := by simpa using Array.mem_of_getElem? ht
        have hall : ([3, 3].all fun u => !Tryd.prog.wantsStandIn u) = true := by kernel_rfl
        exact (show Tryd.prog.wantsStandIn t = false by simpa using List.all_eq_true.1 hall t hm)⟩)
    (by kernel_rfl)
#print axioms clefSignatures_card
end Go.Proofs.YtnakfeamimeioaaDoor
