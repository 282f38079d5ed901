/- ClefPositions: for every clef number and every pitch, Position returns the staff position or the error, and Check the error; the arguments read as before; the tables that the row lists are tied to the program text; no further condition. -/
import Derived.Test.YtnakfeamimeioaaDoorKnown
import Derived.Test.YtnakfeamimeioaaDoorLaid
import Derived.Test.YtnakfeamimeioaaDoorC8
namespace Go.Proofs.YtnakfeamimeioaaDoor
open Go.RowKit
attribute [local go_sem] World.cell?_alloc_some

set_option maxRecDepth 100000 in
set_option maxHeartbeats 3200000 in
theorem positions_walk (c s a o : Int) (w : World) (_ : -9223372036854775808 ≤ c) (_ : c ≤ 9223372036854775807) (_ : -9223372036854775808 ≤ s) (_ : s ≤ 9223372036854775807) (_ : -9223372036854775808 ≤ a) (_ : a ≤ 9223372036854775807) (_ : -9223372036854775808 ≤ o) (_ : o ≤ 9223372036854775807) (hT : Tab w) :
    Calls Tryd.prog 3 #[.int .i64 c, .agg #[.int .i64 s, .int .i64 a, .int .i64 o]] w fun e w' => e = .returned (.bool true) ∧ G w w' := by
  have HT := Lib.hid hT
  clear hT
  by_cases h : Cf c
  · have HC := Lib.hid h
    by_cases k : Ok s a o
    · have HO := Lib.hid k
      obtain ⟨V, hV⟩ : ∃ z : Int, Hid (z = 7 * o + s - mid c) := ⟨_, rfl⟩
      have HV := Lib.hid (show poV c s a o = V ∧ poE c s a o = 0 by unfold poV poE; rw [if_pos ⟨h, k⟩, if_pos h, if_pos k, hV.out]; exact ⟨rfl, rfl⟩)
      have I1 : Hid (Inr s a o) := Lib.hid k.1
      clear h k
      go_enter Tryd.func3, Tryd.ntmps3
      go_wp2_with fail
      refine (known_any _ (HT.out.later (by (repeat' (first | (with_reducible exact G.refl _) | (with_reducible assumption) | (with_reducible refine G.drewN ?_ _) | (with_reducible refine G.drew ?_) | (with_reducible refine G.alloc ?_ _) | (with_reducible refine G.setCell ?_ (by first | (with_reducible exact Nat.le_refl _) | (simp; done) | (simp; omega) | omega) _) | (with_reducible refine G.trans ?_ (by assumption))))))).mono ?_
      rintro e w1 ⟨rfl, hG1⟩
      obtain ⟨y0, y1, y2⟩ := tri_later hG1
      go_wp2_with fail
      refine (cPosition_any c s a o _ (HT.out.later (by (repeat' (first | (with_reducible exact G.refl _) | (with_reducible assumption) | (with_reducible refine G.drewN ?_ _) | (with_reducible refine G.drew ?_) | (with_reducible refine G.alloc ?_ _) | (with_reducible refine G.setCell ?_ (by first | (with_reducible exact Nat.le_refl _) | (simp; done) | (simp; omega) | omega) _) | (with_reducible refine G.trans ?_ (by assumption))))))).mono ?_
      rintro e w2 ⟨rfl, hG2⟩
      rw [HV.out.1, HV.out.2]
      replace y0 := hG2.at y0
      replace y1 := hG2.at y1
      replace y2 := hG2.at y2
      go_wp2_with fail
      refine (kind_any c _).mono ?_
      rintro e w3 ⟨rfl, rfl⟩
      rw [ck_ok HC.out]
      go_wp2_with fail
      refine (cCheck_any c _).mono ?_
      rintro e w3 ⟨rfl, rfl⟩
      rw [ck_ok HC.out]
      go_wp2_with fail
      refine (rExists_any s a o _).mono ?_
      rintro e w3 ⟨rfl, hG3⟩
      rw [decide_eq_true HO.out]
      replace y0 := hG3.at y0
      replace y1 := hG3.at y1
      replace y2 := hG3.at y2
      go_wp2_with fail
      refine (rPosition_any c s a o _ HC.out I1.out).mono ?_
      rintro e w4 ⟨rfl, hG4⟩
      rw [← hV.out]
      go_wp2_with fail
      go_ret
      exact ⟨by first | rfl | simp, by (repeat' (first | (with_reducible exact G.refl _) | (with_reducible assumption) | (with_reducible refine G.drewN ?_ _) | (with_reducible refine G.drew ?_) | (with_reducible refine G.alloc ?_ _) | (with_reducible refine G.setCell ?_ (by first | (with_reducible exact Nat.le_refl _) | (simp; done) | (simp; omega) | omega) _) | (with_reducible refine G.trans ?_ (by assumption))))⟩
    · have HO := Lib.hid k
      have HV := Lib.hid (show poV c s a o = 0 ∧ poE c s a o = 18 by unfold poV poE; rw [if_neg (fun z => k z.2), if_pos h, if_neg k]; exact ⟨rfl, rfl⟩)
      clear h k
      go_enter Tryd.func3, Tryd.ntmps3
      go_wp2_with fail
      refine (known_any _ (HT.out.later (by (repeat' (first | (with_reducible exact G.refl _) | (with_reducible assumption) | (with_reducible refine G.drewN ?_ _) | (with_reducible refine G.drew ?_) | (with_reducible refine G.alloc ?_ _) | (with_reducible refine G.setCell ?_ (by first | (with_reducible exact Nat.le_refl _) | (simp; done) | (simp; omega) | omega) _) | (with_reducible refine G.trans ?_ (by assumption))))))).mono ?_
      rintro e w1 ⟨rfl, hG1⟩
      obtain ⟨y0, y1, y2⟩ := tri_later hG1
      go_wp2_with fail
      refine (cPosition_any c s a o _ (HT.out.later (by (repeat' (first | (with_reducible exact G.refl _) | (with_reducible assumption) | (with_reducible refine G.drewN ?_ _) | (with_reducible refine G.drew ?_) | (with_reducible refine G.alloc ?_ _) | (with_reducible refine G.setCell ?_ (by first | (with_reducible exact Nat.le_refl _) | (simp; done) | (simp; omega) | omega) _) | (with_reducible refine G.trans ?_ (by assumption))))))).mono ?_
      rintro e w2 ⟨rfl, hG2⟩
      rw [HV.out.1, HV.out.2]
      replace y0 := hG2.at y0
      replace y1 := hG2.at y1
      replace y2 := hG2.at y2
      go_wp2_with fail
      refine (kind_any c _).mono ?_
      rintro e w3 ⟨rfl, rfl⟩
      rw [ck_ok HC.out]
      go_wp2_with fail
      refine (cCheck_any c _).mono ?_
      rintro e w3 ⟨rfl, rfl⟩
      rw [ck_ok HC.out]
      go_wp2_with fail
      refine (rExists_any s a o _).mono ?_
      rintro e w3 ⟨rfl, hG3⟩
      rw [decide_eq_false HO.out]
      clear y0 y1 y2
      go_wp2_with fail
      go_ret
      exact ⟨by first | rfl | simp, by (repeat' (first | (with_reducible exact G.refl _) | (with_reducible assumption) | (with_reducible refine G.drewN ?_ _) | (with_reducible refine G.drew ?_) | (with_reducible refine G.alloc ?_ _) | (with_reducible refine G.setCell ?_ (by first | (with_reducible exact Nat.le_refl _) | (simp; done) | (simp; omega) | omega) _) | (with_reducible refine G.trans ?_ (by assumption))))⟩
  · have HC := Lib.hid h
    have HV := Lib.hid (show poV c s a o = 0 ∧ poE c s a o = 11 by unfold poV poE; rw [if_neg (fun z => h z.1), if_neg h]; exact ⟨rfl, rfl⟩)
    clear h
    go_enter Tryd.func3, Tryd.ntmps3
    go_wp2_with fail
    refine (known_any _ (HT.out.later (by (repeat' (first | (with_reducible exact G.refl _) | (with_reducible assumption) | (with_reducible refine G.drewN ?_ _) | (with_reducible refine G.drew ?_) | (with_reducible refine G.alloc ?_ _) | (with_reducible refine G.setCell ?_ (by first | (with_reducible exact Nat.le_refl _) | (simp; done) | (simp; omega) | omega) _) | (with_reducible refine G.trans ?_ (by assumption))))))).mono ?_
    rintro e w1 ⟨rfl, hG1⟩
    obtain ⟨y0, y1, y2⟩ := tri_later hG1
    go_wp2_with fail
    refine (cPosition_any c s a o _ (HT.out.later (by (repeat' (first | (with_reducible exact G.refl _) | (with_reducible assumption) | (with_reducible refine G.drewN ?_ _) | (with_reducible refine G.drew ?_) | (with_reducible refine G.alloc ?_ _) | (with_reducible refine G.setCell ?_ (by first | (with_reducible exact Nat.le_refl _) | (simp; done) | (simp; omega) | omega) _) | (with_reducible refine G.trans ?_ (by assumption))))))).mono ?_
    rintro e w2 ⟨rfl, hG2⟩
    rw [HV.out.1, HV.out.2]
    clear y0 y1 y2
    go_wp2_with fail
    refine (kind_any c _).mono ?_
    rintro e w3 ⟨rfl, rfl⟩
    rw [ck_bad HC.out]
    go_wp2_with fail
    refine (cCheck_any c _).mono ?_
    rintro e w3 ⟨rfl, rfl⟩
    rw [ck_bad HC.out]
    go_wp2_with fail
    go_ret
    exact ⟨by first | rfl | simp, by (repeat' (first | (with_reducible exact G.refl _) | (with_reducible assumption) | (with_reducible refine G.drewN ?_ _) | (with_reducible refine G.drew ?_) | (with_reducible refine G.alloc ?_ _) | (with_reducible refine G.setCell ?_ (by first | (with_reducible exact Nat.le_refl _) | (simp; done) | (simp; omega) | omega) _) | (with_reducible refine G.trans ?_ (by assumption))))⟩

/-! ### the row and the card -/
open Go.ChangeShapes Go.WideShapes Go.ChangeAt Go.RowKit
set_option maxRecDepth 100000 in
theorem clefPositions_lifted (os : Os) (started : os.Started) (H : Type) (enc : TypeId × Value → H) :
    ReturnsInHanded {} Tryd.checked os 3 .any (fun w args => (Rows.clefPositionsSpec.pre enc Tryd.prog Tryd.f3 [] false w args ∧ laidMetH Tryd.prog laidL w) ∧ sizedMet enc Tryd.prog Tryd.f3 (OpenSpec.ofChange Rows.clefPositionsSpec) false w args)
      (Rows.clefPositionsSpec.post enc Tryd.prog Tryd.f3 false true false false) := by
  refine returnsInHanded_of_change_and (C := Tryd.checked) (X := fun w _ => laidMetH Tryd.prog laidL w) (fun _ _ _ hh h => h.of_heap hh) own started (by kernel_rfl) Tryd.func3
    (ChangeSpec.witness_shaped (enc := enc) (C := Tryd.checked) (os := os) (X := fun w _ => laidMetH Tryd.prog laidL w) false (World.laidAll Tryd.prog os laidL) #[.int .i64 0, .agg #[.int .i64 0, .int .i64 0, .int .i64 0]] 8 (World.laidAll_os _ _ _) (shapedL os) (by kernel_rfl) (by kernel_rfl) (by kernel_rfl) (laid_met os _)) ?_
  intro W base args ds gs before hval0 hW _ _ hL _
  have hval : ∀ (j : Nat) t v, Tryd.f3.params[j]? = some t → args[j]? = some v → Value.okWide Tryd.prog W .any base t v := hval0
  have hW' := hW
  obtain ⟨p, q, hA0, hV, rfl, hfz, hnd⟩ := hW
  have hA : DataW.TrodAll enc Tryd.prog W 0 (fun _ => true) true Tryd.f3.params.toList args.toList ds p := hA0
  rw [Tryd.params3] at hA hval
  obtain ⟨v0, vs0, d0, ds0, p0, q0, hargs, rfl, rfl, h0, r0⟩ := trodAll_cons hA
  obtain ⟨v1, vs1, d1, ds1, p1, q1, rfl, rfl, rfl, h1, r1⟩ := trodAll_cons r0
  obtain ⟨rfl, rfl, rfl⟩ := trodAll_nil r1
  obtain rfl : args = #[v0, v1] := by cases args; simp_all
  obtain ⟨rfl, rfl⟩ := trodVars_none hV
  obtain ⟨a0, rfl, rfl, rfl, w0⟩ := open_int Tryd.underlying3 (hval 0 3 v0 rfl rfl) h0
  obtain ⟨bl0, bh0⟩ := bounds_i64 w0
  obtain ⟨a1, b1, c1, rfl, rfl, rfl, w1, u1, y1⟩ := open_pitch (hval 1 23 v1 rfl rfl) h1
  obtain ⟨al1, ah1⟩ := bounds_i64 w1
  obtain ⟨bl1, bh1⟩ := bounds_i64 u1
  obtain ⟨cl1, ch1⟩ := bounds_i64 y1
  clear hA0 hval0
  simp only [List.append_nil] at hW'
  refine (positions_walk a0 a1 b1 c1 W bl0 bh0 al1 ah1 bl1 bh1 cl1 ch1  (tab_of_laid hL)).mono fun e W' ⟨he, hg⟩ => ?_
  subst he
  exact ⟨_, rfl, _, _, _, [], [], [], hW', (trodAll_cons_mk (shut_bool Tryd.underlying4 _) trodAll_mk0), (trodAll_cons_mk (shut_int Tryd.underlying3 w0) (trodAll_cons_mk (shut_pitch w1 u1 y1) trodAll_mk0)), rfl, Below.frame hg _, fun h => by cases h⟩

theorem clefPositions_holds : Rows.ClefPositionsSaid :=
  OpenClaim.holds_of_wide 3 Tryd.f3 rfl rfl rfl rfl rfl rfl rfl ⟨rfl, rfl, rfl, rfl, rfl⟩ rfl rfl rfl rfl rfl (by kernel_rfl) Tryd.func3 (by kernel_rfl)
    (of_decide_eq_true (by kernel_rfl)) (by unfold Func.isWrapper; first | (rw [if_pos (by decide +kernel)]; kernel_rfl) | (rw [if_neg (by decide +kernel)]; exact ⟨rfl, rfl⟩))
    (fun os started H enc _ => clefPositions_lifted os started H enc)

theorem clefPositions_card : Rows.ClefPositionsCardSaid :=
  Claim7.holds_tied_plain_at .later [] [.data, .data, .data] true (true, "ae3d3630bcff25fd33e59354a4ec782dc285709024c716b55dd2ba349c01efa0") false
    clefPositions_holds (fun _ h => by cases h) (by kernel_rfl) (fun _ h => by cases h) clefPositions_row_tie rfl ⟨rfl, rfl⟩ (by kernel_rfl) rfl
    (fun f fn hf hfn => by
      obtain rfl : f = 3 := Option.some.inj ((show Tryd.prog.funcNamed "hemiola/hemiolalaw08.ClefPositions" = some 3 by kernel_rfl).symm.trans hf) |>.symm
      obtain rfl : fn = Tryd.f3 := (Option.some.inj (Tryd.func3.symm.trans hfn)).symm
      exact ⟨by kernel_rfl, fun j t ht => by
        rw [Tryd.params3] at ht
        have hm : t ∈ [3, 23] := by simpa using Array.mem_of_getElem? ht
        have hall : ([3, 23].all fun u => !Tryd.prog.wantsStandIn u) = true := by kernel_rfl
        exact (show Tryd.prog.wantsStandIn t = false by simpa using List.all_eq_true.1 hall t hm)⟩)
    (by kernel_rfl)
#print axioms clefPositions_card
end Go.Proofs.YtnakfeamimeioaaDoor
