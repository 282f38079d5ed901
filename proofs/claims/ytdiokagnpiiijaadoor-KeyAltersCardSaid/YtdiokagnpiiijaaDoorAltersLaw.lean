/- KeyAlters: for every number of fifths and every step, Check, Alter and Signature return what the reference returns, or the errors; the arguments read as before; the tables that the row lists are tied to the program text; no further condition. -/
import Derived.Test.YtdiokagnpiiijaaDoorKnown
import Derived.Test.YtdiokagnpiiijaaDoorLaid
namespace Go.Proofs.YtdiokagnpiiijaaDoor
open Go.RowKit
attribute [local go_sem] World.cell?_alloc_some

set_option maxRecDepth 20000 in
set_option maxHeartbeats 3200000 in
theorem alters_walk (f s : Int) (w : World) (_ : -9223372036854775808 ≤ f) (_ : f ≤ 9223372036854775807) (_ : -9223372036854775808 ≤ s) (_ : s ≤ 9223372036854775807) (hT : Tab w) :
    Calls Tryd.prog 3 #[.int .i64 f, .int .i64 s] w fun e w' => e = .returned (.bool true) ∧ G w w' := by
  have HT := Lib.hid hT
  clear hT
  by_cases h : Sg f
  · have HS := Lib.hid h
    have HL := Lib.hid (show (sgL f).length ≤ 100 by rw [sgL_len h]; obtain ⟨f0, f1⟩ := h; omega)
    clear h
    by_cases c : 0 ≤ s ∧ s ≤ 6
    · have HV := Lib.hid (show alV f s = al f s ∧ alE f s = 0 by unfold alV alE; rw [if_pos ⟨HS.out, c⟩, if_pos HS.out, if_pos c]; exact ⟨rfl, rfl⟩)
      obtain ⟨s0, s1⟩ := c
      obtain ⟨A, hA⟩ : ∃ z : Int, Hid (z = al f s) := ⟨_, rfl⟩
      go_enter Tryd.func3, Tryd.ntmps3
      go_wp2_with fail
      refine (Alter_any f s _ (HT.out.later (by (repeat' (first | (with_reducible exact G.refl _) | (with_reducible assumption) | (with_reducible refine G.drewN ?_ _) | (with_reducible refine G.drew ?_) | (with_reducible refine G.alloc ?_ _) | (with_reducible refine G.setCell ?_ (by first | (with_reducible exact Nat.le_refl _) | (simp; done) | (simp; omega) | omega) _) | (with_reducible refine G.trans ?_ (by assumption))))))).mono ?_
      rintro e w1 ⟨rfl, rfl⟩
      rw [HV.out.1, HV.out.2, ← hA.out]
      go_wp2_with fail
      refine (Signature_ok f _ HS.out (HT.out.later (by (repeat' (first | (with_reducible exact G.refl _) | (with_reducible assumption) | (with_reducible refine G.drewN ?_ _) | (with_reducible refine G.drew ?_) | (with_reducible refine G.alloc ?_ _) | (with_reducible refine G.setCell ?_ (by first | (with_reducible exact Nat.le_refl _) | (simp; done) | (simp; omega) | omega) _) | (with_reducible refine G.trans ?_ (by assumption))))))).mono ?_
      rintro e w1 ⟨v, rfl, hA1⟩
      have hG1 := hA1.2
      have L1 := hA1.lies
      go_wp2_with fail
      refine (known_any _ (HT.out.later (by (repeat' (first | (with_reducible exact G.refl _) | (with_reducible assumption) | (with_reducible refine G.drewN ?_ _) | (with_reducible refine G.drew ?_) | (with_reducible refine G.alloc ?_ _) | (with_reducible refine G.setCell ?_ (by first | (with_reducible exact Nat.le_refl _) | (simp; done) | (simp; omega) | omega) _) | (with_reducible refine G.trans ?_ (by assumption))))))).mono ?_
      rintro e w2 ⟨rfl, hG2⟩
      replace L1 := L1.later hG2
      go_wp2_with fail
      refine (Check_any f _).mono ?_
      rintro e w3 ⟨rfl, rfl⟩
      rw [ck_ok HS.out]
      go_wp2_with fail
      refine (rIs_any f _).mono ?_
      rintro e w3 ⟨rfl, rfl⟩
      rw [decide_eq_true HS.out]
      go_wp2_with fail
      refine (rIs_any f _).mono ?_
      rintro e w3 ⟨rfl, rfl⟩
      rw [decide_eq_true HS.out]
      go_wp2_with fail
      refine (rSignature_any f _ HS.out).mono ?_
      rintro e w3 ⟨v2, rfl, hA2⟩
      have hG3 := hA2.2
      have L2 := hA2.lies
      replace L1 := L1.later hG3
      go_wp2_with fail
      refine (numbers_eq v v2 _ _ L1 L2 HL.out).mono ?_
      rintro e w4 ⟨rfl, hG4⟩
      go_wp2_with fail
      refine (rAlter_any f s _ HS.out s0 s1).mono ?_
      rintro e w5 ⟨rfl, hG5⟩
      rw [← hA.out]
      go_wp2_with fail
      go_ret
      exact ⟨rfl, by (repeat' (first | (with_reducible exact G.refl _) | (with_reducible assumption) | (with_reducible refine G.drewN ?_ _) | (with_reducible refine G.drew ?_) | (with_reducible refine G.alloc ?_ _) | (with_reducible refine G.setCell ?_ (by first | (with_reducible exact Nat.le_refl _) | (simp; done) | (simp; omega) | omega) _) | (with_reducible refine G.trans ?_ (by assumption))))⟩
    · have HV := Lib.hid (show alV f s = 0 ∧ alE f s = 18 by unfold alV alE; rw [if_neg (fun k => c k.2), if_pos HS.out, if_neg c]; exact ⟨rfl, rfl⟩)
      have hc : s < 0 ∨ 6 < s := by omega
      clear c
      rcases hc with hc | hc
      all_goals
        go_enter Tryd.func3, Tryd.ntmps3
        go_wp2_with fail
        refine (Alter_any f s _ (HT.out.later (by (repeat' (first | (with_reducible exact G.refl _) | (with_reducible assumption) | (with_reducible refine G.drewN ?_ _) | (with_reducible refine G.drew ?_) | (with_reducible refine G.alloc ?_ _) | (with_reducible refine G.setCell ?_ (by first | (with_reducible exact Nat.le_refl _) | (simp; done) | (simp; omega) | omega) _) | (with_reducible refine G.trans ?_ (by assumption))))))).mono ?_
        rintro e w1 ⟨rfl, rfl⟩
        rw [HV.out.1, HV.out.2]
        go_wp2_with fail
        refine (Signature_ok f _ HS.out (HT.out.later (by (repeat' (first | (with_reducible exact G.refl _) | (with_reducible assumption) | (with_reducible refine G.drewN ?_ _) | (with_reducible refine G.drew ?_) | (with_reducible refine G.alloc ?_ _) | (with_reducible refine G.setCell ?_ (by first | (with_reducible exact Nat.le_refl _) | (simp; done) | (simp; omega) | omega) _) | (with_reducible refine G.trans ?_ (by assumption))))))).mono ?_
        rintro e w1 ⟨v, rfl, hA1⟩
        have hG1 := hA1.2
        have L1 := hA1.lies
        go_wp2_with fail
        refine (known_any _ (HT.out.later (by (repeat' (first | (with_reducible exact G.refl _) | (with_reducible assumption) | (with_reducible refine G.drewN ?_ _) | (with_reducible refine G.drew ?_) | (with_reducible refine G.alloc ?_ _) | (with_reducible refine G.setCell ?_ (by first | (with_reducible exact Nat.le_refl _) | (simp; done) | (simp; omega) | omega) _) | (with_reducible refine G.trans ?_ (by assumption))))))).mono ?_
        rintro e w2 ⟨rfl, hG2⟩
        replace L1 := L1.later hG2
        go_wp2_with fail
        refine (Check_any f _).mono ?_
        rintro e w3 ⟨rfl, rfl⟩
        rw [ck_ok HS.out]
        go_wp2_with fail
        refine (rIs_any f _).mono ?_
        rintro e w3 ⟨rfl, rfl⟩
        rw [decide_eq_true HS.out]
        go_wp2_with fail
        refine (rIs_any f _).mono ?_
        rintro e w3 ⟨rfl, rfl⟩
        rw [decide_eq_true HS.out]
        go_wp2_with fail
        refine (rSignature_any f _ HS.out).mono ?_
        rintro e w3 ⟨v2, rfl, hA2⟩
        have hG3 := hA2.2
        have L2 := hA2.lies
        replace L1 := L1.later hG3
        go_wp2_with fail
        refine (numbers_eq v v2 _ _ L1 L2 HL.out).mono ?_
        rintro e w4 ⟨rfl, hG4⟩
        go_wp2_with fail
        go_ret
        exact ⟨rfl, by (repeat' (first | (with_reducible exact G.refl _) | (with_reducible assumption) | (with_reducible refine G.drewN ?_ _) | (with_reducible refine G.drew ?_) | (with_reducible refine G.alloc ?_ _) | (with_reducible refine G.setCell ?_ (by first | (with_reducible exact Nat.le_refl _) | (simp; done) | (simp; omega) | omega) _) | (with_reducible refine G.trans ?_ (by assumption))))⟩
  · have HS := Lib.hid h
    have HV := Lib.hid (show alV f s = 0 ∧ alE f s = 2 by unfold alV alE; rw [if_neg (fun k => h k.1), if_neg h]; exact ⟨rfl, rfl⟩)
    clear h
    go_enter Tryd.func3, Tryd.ntmps3
    go_wp2_with fail
    refine (Alter_any f s _ (HT.out.later (by (repeat' (first | (with_reducible exact G.refl _) | (with_reducible assumption) | (with_reducible refine G.drewN ?_ _) | (with_reducible refine G.drew ?_) | (with_reducible refine G.alloc ?_ _) | (with_reducible refine G.setCell ?_ (by first | (with_reducible exact Nat.le_refl _) | (simp; done) | (simp; omega) | omega) _) | (with_reducible refine G.trans ?_ (by assumption))))))).mono ?_
    rintro e w1 ⟨rfl, rfl⟩
    rw [HV.out.1, HV.out.2]
    go_wp2_with fail
    refine (Signature_bad f _ HS.out).mono ?_
    rintro e w1 ⟨rfl, rfl⟩
    go_wp2_with fail
    refine (known_any _ (HT.out.later (by (repeat' (first | (with_reducible exact G.refl _) | (with_reducible assumption) | (with_reducible refine G.drewN ?_ _) | (with_reducible refine G.drew ?_) | (with_reducible refine G.alloc ?_ _) | (with_reducible refine G.setCell ?_ (by first | (with_reducible exact Nat.le_refl _) | (simp; done) | (simp; omega) | omega) _) | (with_reducible refine G.trans ?_ (by assumption))))))).mono ?_
    rintro e w2 ⟨rfl, hG2⟩
    go_wp2_with fail
    refine (Check_any f _).mono ?_
    rintro e w3 ⟨rfl, rfl⟩
    rw [ck_bad HS.out]
    go_wp2_with fail
    refine (rIs_any f _).mono ?_
    rintro e w3 ⟨rfl, rfl⟩
    rw [decide_eq_false HS.out]
    go_wp2_with fail
    refine (rIs_any f _).mono ?_
    rintro e w3 ⟨rfl, rfl⟩
    rw [decide_eq_false HS.out]
    go_wp2_with fail
    refine (Check_any f _).mono ?_
    rintro e w3 ⟨rfl, rfl⟩
    rw [ck_bad HS.out]
    go_wp2_with fail
    go_ret
    exact ⟨rfl, by (repeat' (first | (with_reducible exact G.refl _) | (with_reducible assumption) | (with_reducible refine G.drewN ?_ _) | (with_reducible refine G.drew ?_) | (with_reducible refine G.alloc ?_ _) | (with_reducible refine G.setCell ?_ (by first | (with_reducible exact Nat.le_refl _) | (simp; done) | (simp; omega) | omega) _) | (with_reducible refine G.trans ?_ (by assumption))))⟩

/-! ### the row and the card -/
open Go.ChangeShapes Go.WideShapes Go.ChangeAt Go.RowKit
set_option maxRecDepth 100000 in
theorem keyAlters_lifted (os : Os) (started : os.Started) (H : Type) (enc : TypeId × Value → H) :
    ReturnsInHanded {} Tryd.checked os 3 .any (fun w args => (Rows.keyAltersSpec.pre enc Tryd.prog Tryd.f3 [] false w args ∧ laidMetH Tryd.prog laidL w) ∧ sizedMet enc Tryd.prog Tryd.f3 (OpenSpec.ofChange Rows.keyAltersSpec) false w args)
      (Rows.keyAltersSpec.post enc Tryd.prog Tryd.f3 false true false false) := by
  refine returnsInHanded_of_change_and (C := Tryd.checked) (X := fun w _ => laidMetH Tryd.prog laidL w) (fun _ _ _ hh h => h.of_heap hh) own started (by kernel_rfl) Tryd.func3
    (ChangeSpec.witness_shaped (enc := enc) (C := Tryd.checked) (os := os) (X := fun w _ => laidMetH Tryd.prog laidL w) false (World.laidAll Tryd.prog os laidL) #[.int .i64 0, .int .i64 0] 8 (World.laidAll_os _ _ _) (shapedL os) (by kernel_rfl) (by kernel_rfl) (by kernel_rfl) (laid_met os _)) ?_
  intro W base args ds gs before hval0 hW _ _ hL _
  have hval : ∀ (j : Nat) t v, Tryd.f3.params[j]? = some t → args[j]? = some v → Value.okWide Tryd.prog W .any base t v := hval0
  have hW' := hW
  obtain ⟨p, q, hA0, hV, rfl, hfz, hnd⟩ := hW
  have hA : DataW.TrodAll enc Tryd.prog W 0 (fun _ => true) true Tryd.f3.params.toList args.toList ds p := hA0
  rw [Tryd.params3] at hA hval
  obtain ⟨v0, vs0, d0, ds0, p0, q0, hargs, rfl, rfl, h0, r0⟩ := trodAll_cons hA
  obtain ⟨v1, vs1, d1, ds1, p1, q1, rfl, rfl, rfl, h1, r1⟩ := trodAll_cons r0
  obtain ⟨rfl, rfl, rfl⟩ := trodAll_nil r1
  obtain rfl : args = #[v0, v1] := by cases args; simp_all
  obtain ⟨rfl, rfl⟩ := trodVars_none hV
  obtain ⟨a0, rfl, rfl, rfl, w0⟩ := open_int Tryd.underlying3 (hval 0 3 v0 rfl rfl) h0
  obtain ⟨bl0, bh0⟩ := bounds_i64 w0
  obtain ⟨a1, rfl, rfl, rfl, w1⟩ := open_int Tryd.underlying3 (hval 1 3 v1 rfl rfl) h1
  obtain ⟨bl1, bh1⟩ := bounds_i64 w1
  clear hA0 hval0
  simp only [List.append_nil] at hW'
  refine (alters_walk a0 a1 W bl0 bh0 bl1 bh1  (tab_of_laid hL)).mono fun e W' ⟨he, hg⟩ => ?_
  subst he
  exact ⟨_, rfl, _, _, _, [], [], [], hW', (trodAll_cons_mk (shut_bool Tryd.underlying4 _) trodAll_mk0), (trodAll_cons_mk (shut_int Tryd.underlying3 w0) (trodAll_cons_mk (shut_int Tryd.underlying3 w1) trodAll_mk0)), rfl, Below.frame hg _, fun h => by cases h⟩

theorem keyAlters_holds : Rows.KeyAltersSaid :=
  OpenClaim.holds_of_wide 3 Tryd.f3 rfl rfl rfl rfl rfl rfl rfl ⟨rfl, rfl, rfl, rfl, rfl⟩ rfl rfl rfl rfl rfl (by kernel_rfl) Tryd.func3 (by kernel_rfl)
    (of_decide_eq_true (by kernel_rfl)) (by unfold Func.isWrapper; first | (rw [if_pos (by decide +kernel)]; kernel_rfl) | (rw [if_neg (by decide +kernel)]; exact ⟨rfl, rfl⟩))
    (fun os started H enc _ => keyAlters_lifted os started H enc)

theorem keyAlters_card : Rows.KeyAltersCardSaid :=
  Claim7.holds_tied_plain_at .later [] [.data, .data] true (true, "2117eec5325c27370f2aa61ddd4a23a865e68bbc1d9bb0ef2c27e10075a20c79") false
    keyAlters_holds (fun _ h => by cases h) (by kernel_rfl) (fun _ h => by cases h) keyAlters_row_tie rfl ⟨rfl, rfl⟩ (by kernel_rfl) rfl
    (fun f fn hf hfn => by
      obtain rfl : f = 3 := Option.some.inj ((show Tryd.prog.funcNamed "hemiola/hemiolalaw07.KeyAlters" = some 3 by kernel_rfl).symm.trans hf) |>.symm
      obtain rfl : fn = Tryd.f3 := (Option.some.inj (Tryd.func3.symm.trans hfn)).symm
      exact ⟨by kernel_rfl, fun j t ht => by
        rw [Tryd.params3] at ht
        have hm : t ∈ [3, 3] := by simpa using Array.mem_of_getElem? ht
        have hall : ([3, 3].all fun u => !Tryd.prog.wantsStandIn u) = true := by kernel_rfl
        exact (show Tryd.prog.wantsStandIn t = false by simpa using List.all_eq_true.1 hall t hm)⟩)
    (by kernel_rfl)
#print axioms keyAlters_card
end Go.Proofs.YtdiokagnpiiijaaDoor
