/- ClefInverts: for every clef number and every position, At returns the pitch there, whose position it is, or the error; the arguments read as before; the tables that the row lists are tied to the program text; no further condition. -/
import Derived.Test.YtnakfeamimeioaaDoorKnown
import Derived.Test.YtnakfeamimeioaaDoorLaid
import Derived.Test.YtnakfeamimeioaaDoorC8
namespace Go.Proofs.YtnakfeamimeioaaDoor
open Go.RowKit
attribute [local go_sem] World.cell?_alloc_some

set_option maxRecDepth 100000 in
set_option maxHeartbeats 3200000 in
theorem inverts_walk (c p : Int) (w : World) (_ : -9223372036854775808 ≤ c) (_ : c ≤ 9223372036854775807) (p0 : -9223372036854775808 ≤ p) (p1 : p ≤ 9223372036854775807) (hT : Tab w) :
    Calls Tryd.prog 4 #[.int .i64 c, .int .i64 p] w fun e w' => e = .returned (.bool true) ∧ G w w' := by
  have HT := Lib.hid hT
  have HP := Lib.hid (And.intro p0 p1)
  clear hT p0 p1
  by_cases h : Cf c
  · have HC := Lib.hid h
    have HC2 := Lib.hid (decide_eq_true h)
    by_cases k : hasP (mid c + p)
    · obtain ⟨S, hS⟩ : ∃ z : Int, Hid (z = stp (mid c + p)) := ⟨_, rfl⟩
      obtain ⟨O, hO⟩ : ∃ z : Int, Hid (z = oct (mid c + p)) := ⟨_, rfl⟩
      have HV := Lib.hid (show atS c p = S ∧ atO c p = O ∧ atE c p = 0 by
        unfold atS atO atE
        rw [if_pos ⟨h, k⟩, if_pos ⟨h, k⟩, if_pos h, if_pos k]
        exact ⟨hS.out.symm, hO.out.symm, rfl⟩)
      have HK := Lib.hid k
      have hok : Ok S 0 O := by rw [hS.out, hO.out]; exact k.2
      have HW := Lib.hid (show poV c S 0 O = p ∧ poE c S 0 O = 0 by
        unfold poV poE
        rw [if_pos ⟨h, hok⟩, if_pos h, if_pos hok]
        refine ⟨?_, rfl⟩
        have := k.1
        rw [hS.out, hO.out]; unfold stp oct; omega)
      clear h k hok
      go_enter Tryd.func4, Tryd.ntmps4
      go_wp2_with fail
      refine (known_any _ (HT.out.later (by (repeat' (first | (with_reducible exact G.refl _) | (with_reducible assumption) | (with_reducible refine G.drewN ?_ _) | (with_reducible refine G.drew ?_) | (with_reducible refine G.alloc ?_ _) | (with_reducible refine G.setCell ?_ (by first | (with_reducible exact Nat.le_refl _) | (simp; done) | (simp; omega) | omega) _) | (with_reducible refine G.trans ?_ (by assumption))))))).mono ?_
      rintro e w1 ⟨rfl, hG1⟩
      go_wp2_with fail
      refine (cAt_any c p _ HP.out.1 HP.out.2 (HT.out.later (by (repeat' (first | (with_reducible exact G.refl _) | (with_reducible assumption) | (with_reducible refine G.drewN ?_ _) | (with_reducible refine G.drew ?_) | (with_reducible refine G.alloc ?_ _) | (with_reducible refine G.setCell ?_ (by first | (with_reducible exact Nat.le_refl _) | (simp; done) | (simp; omega) | omega) _) | (with_reducible refine G.trans ?_ (by assumption))))))).mono ?_
      rintro e w2 ⟨rfl, hG2⟩
      rw [HV.out.1, HV.out.2.1, HV.out.2.2]
      go_wp2_with fail
      refine (rValid_any c _).mono ?_
      rintro e w3 ⟨rfl, rfl⟩
      rw [HC2.out]
      go_wp2_with fail
      refine (rAt_any c p _ HC.out).mono ?_
      rintro e w3 ⟨rfl, hG3⟩
      rw [if_pos HK.out, if_pos HK.out, decide_eq_true HK.out, ← hS.out, ← hO.out]
      obtain ⟨y0, y1, y2⟩ := tri_later hG3
      go_wp2_with fail
      refine (cPosition_any c S 0 O _ (HT.out.later (by (repeat' (first | (with_reducible exact G.refl _) | (with_reducible assumption) | (with_reducible refine G.drewN ?_ _) | (with_reducible refine G.drew ?_) | (with_reducible refine G.alloc ?_ _) | (with_reducible refine G.setCell ?_ (by first | (with_reducible exact Nat.le_refl _) | (simp; done) | (simp; omega) | omega) _) | (with_reducible refine G.trans ?_ (by assumption))))))).mono ?_
      rintro e w4 ⟨rfl, hG4⟩
      rw [HW.out.1, HW.out.2]
      obtain ⟨z0, z1, z2⟩ := tri_later hG4
      have g34 : G w3 w4 := G.trans (by (repeat' (first | (with_reducible exact G.refl _) | (with_reducible refine G.drewN ?_ _) | (with_reducible refine G.drew ?_) | (with_reducible refine G.alloc ?_ _)))) hG4
      replace y0 := g34.at y0
      replace y1 := g34.at y1
      replace y2 := g34.at y2
      go_wp2_with fail
      go_ret
      exact ⟨by first | rfl | simp, by (repeat' (first | (with_reducible exact G.refl _) | (with_reducible assumption) | (with_reducible refine G.drewN ?_ _) | (with_reducible refine G.drew ?_) | (with_reducible refine G.alloc ?_ _) | (with_reducible refine G.setCell ?_ (by first | (with_reducible exact Nat.le_refl _) | (simp; done) | (simp; omega) | omega) _) | (with_reducible refine G.trans ?_ (by assumption))))⟩
    · have HV := Lib.hid (show atS c p = 0 ∧ atO c p = 0 ∧ atE c p = 2 by
        unfold atS atO atE
        rw [if_neg (fun z => k z.2), if_neg (fun z => k z.2), if_pos h, if_neg k]
        exact ⟨rfl, rfl, rfl⟩)
      have HK := Lib.hid k
      clear h k
      go_enter Tryd.func4, Tryd.ntmps4
      go_wp2_with fail
      refine (known_any _ (HT.out.later (by (repeat' (first | (with_reducible exact G.refl _) | (with_reducible assumption) | (with_reducible refine G.drewN ?_ _) | (with_reducible refine G.drew ?_) | (with_reducible refine G.alloc ?_ _) | (with_reducible refine G.setCell ?_ (by first | (with_reducible exact Nat.le_refl _) | (simp; done) | (simp; omega) | omega) _) | (with_reducible refine G.trans ?_ (by assumption))))))).mono ?_
      rintro e w1 ⟨rfl, hG1⟩
      go_wp2_with fail
      refine (cAt_any c p _ HP.out.1 HP.out.2 (HT.out.later (by (repeat' (first | (with_reducible exact G.refl _) | (with_reducible assumption) | (with_reducible refine G.drewN ?_ _) | (with_reducible refine G.drew ?_) | (with_reducible refine G.alloc ?_ _) | (with_reducible refine G.setCell ?_ (by first | (with_reducible exact Nat.le_refl _) | (simp; done) | (simp; omega) | omega) _) | (with_reducible refine G.trans ?_ (by assumption))))))).mono ?_
      rintro e w2 ⟨rfl, hG2⟩
      rw [HV.out.1, HV.out.2.1, HV.out.2.2]
      go_wp2_with fail
      refine (rValid_any c _).mono ?_
      rintro e w3 ⟨rfl, rfl⟩
      rw [HC2.out]
      go_wp2_with fail
      refine (rAt_any c p _ HC.out).mono ?_
      rintro e w3 ⟨rfl, hG3⟩
      rw [if_neg HK.out, if_neg HK.out, decide_eq_false HK.out]
      obtain ⟨y0, y1, y2⟩ := tri_later hG3
      go_wp2_with fail
      go_ret
      exact ⟨by first | rfl | simp, by (repeat' (first | (with_reducible exact G.refl _) | (with_reducible assumption) | (with_reducible refine G.drewN ?_ _) | (with_reducible refine G.drew ?_) | (with_reducible refine G.alloc ?_ _) | (with_reducible refine G.setCell ?_ (by first | (with_reducible exact Nat.le_refl _) | (simp; done) | (simp; omega) | omega) _) | (with_reducible refine G.trans ?_ (by assumption))))⟩
  · have HC2 := Lib.hid (decide_eq_false h)
    have HV := Lib.hid (show atS c p = 0 ∧ atO c p = 0 ∧ atE c p = 11 by
      unfold atS atO atE
      rw [if_neg (fun z => h z.1), if_neg (fun z => h z.1), if_neg h]
      exact ⟨rfl, rfl, rfl⟩)
    clear h
    go_enter Tryd.func4, Tryd.ntmps4
    go_wp2_with fail
    refine (known_any _ (HT.out.later (by (repeat' (first | (with_reducible exact G.refl _) | (with_reducible assumption) | (with_reducible refine G.drewN ?_ _) | (with_reducible refine G.drew ?_) | (with_reducible refine G.alloc ?_ _) | (with_reducible refine G.setCell ?_ (by first | (with_reducible exact Nat.le_refl _) | (simp; done) | (simp; omega) | omega) _) | (with_reducible refine G.trans ?_ (by assumption))))))).mono ?_
    rintro e w1 ⟨rfl, hG1⟩
    go_wp2_with fail
    refine (cAt_any c p _ HP.out.1 HP.out.2 (HT.out.later (by (repeat' (first | (with_reducible exact G.refl _) | (with_reducible assumption) | (with_reducible refine G.drewN ?_ _) | (with_reducible refine G.drew ?_) | (with_reducible refine G.alloc ?_ _) | (with_reducible refine G.setCell ?_ (by first | (with_reducible exact Nat.le_refl _) | (simp; done) | (simp; omega) | omega) _) | (with_reducible refine G.trans ?_ (by assumption))))))).mono ?_
    rintro e w2 ⟨rfl, hG2⟩
    rw [HV.out.1, HV.out.2.1, HV.out.2.2]
    go_wp2_with fail
    refine (rValid_any c _).mono ?_
    rintro e w3 ⟨rfl, rfl⟩
    rw [HC2.out]
    go_wp2_with fail
    go_ret
    exact ⟨by first | rfl | simp, by (repeat' (first | (with_reducible exact G.refl _) | (with_reducible assumption) | (with_reducible refine G.drewN ?_ _) | (with_reducible refine G.drew ?_) | (with_reducible refine G.alloc ?_ _) | (with_reducible refine G.setCell ?_ (by first | (with_reducible exact Nat.le_refl _) | (simp; done) | (simp; omega) | omega) _) | (with_reducible refine G.trans ?_ (by assumption))))⟩

/-! ### the row and the card -/
open Go.ChangeShapes Go.WideShapes Go.ChangeAt Go.RowKit
set_option maxRecDepth 100000 in
theorem clefInverts_lifted (os : Os) (started : os.Started) (H : Type) (enc : TypeId × Value → H) :
    ReturnsInHanded {} Tryd.checked os 4 .any (fun w args => (Rows.clefInvertsSpec.pre enc Tryd.prog Tryd.f4 [] false w args ∧ laidMetH Tryd.prog laidL w) ∧ sizedMet enc Tryd.prog Tryd.f4 (OpenSpec.ofChange Rows.clefInvertsSpec) false w args)
      (Rows.clefInvertsSpec.post enc Tryd.prog Tryd.f4 false true false false) := by
  refine returnsInHanded_of_change_and (C := Tryd.checked) (X := fun w _ => laidMetH Tryd.prog laidL w) (fun _ _ _ hh h => h.of_heap hh) own started (by kernel_rfl) Tryd.func4
    (ChangeSpec.witness_shaped (enc := enc) (C := Tryd.checked) (os := os) (X := fun w _ => laidMetH Tryd.prog laidL w) false (World.laidAll Tryd.prog os laidL) #[.int .i64 0, .int .i64 0] 8 (World.laidAll_os _ _ _) (shapedL os) (by kernel_rfl) (by kernel_rfl) (by kernel_rfl) (laid_met os _)) ?_
  intro W base args ds gs before hval0 hW _ _ hL _
  have hval : ∀ (j : Nat) t v, Tryd.f4.params[j]? = some t → args[j]? = some v → Value.okWide Tryd.prog W .any base t v := hval0
  have hW' := hW
  obtain ⟨p, q, hA0, hV, rfl, hfz, hnd⟩ := hW
  have hA : DataW.TrodAll enc Tryd.prog W 0 (fun _ => true) true Tryd.f4.params.toList args.toList ds p := hA0
  rw [Tryd.params4] at hA hval
  obtain ⟨v0, vs0, d0, ds0, p0, q0, hargs, rfl, rfl, h0, r0⟩ := trodAll_cons hA
  obtain ⟨v1, vs1, d1, ds1, p1, q1, rfl, rfl, rfl, h1, r1⟩ := trodAll_cons r0
  obtain ⟨rfl, rfl, rfl⟩ := trodAll_nil r1
  obtain rfl : args = #[v0, v1] := by cases args; simp_all
  obtain ⟨rfl, rfl⟩ := trodVars_none hV
  obtain ⟨a0, rfl, rfl, rfl, w0⟩ := open_int Tryd.underlying3 (hval 0 3 v0 rfl rfl) h0
  obtain ⟨bl0, bh0⟩ := bounds_i64 w0
  obtain ⟨a1, rfl, rfl, rfl, w1⟩ := open_int Tryd.underlying3 (hval 1 3 v1 rfl rfl) h1
  obtain ⟨bl1, bh1⟩ := bounds_i64 w1
  clear hA0 hval0
  simp only [List.append_nil] at hW'
  refine (inverts_walk a0 a1 W bl0 bh0 bl1 bh1  (tab_of_laid hL)).mono fun e W' ⟨he, hg⟩ => ?_
  subst he
  exact ⟨_, rfl, _, _, _, [], [], [], hW', (trodAll_cons_mk (shut_bool Tryd.underlying4 _) trodAll_mk0), (trodAll_cons_mk (shut_int Tryd.underlying3 w0) (trodAll_cons_mk (shut_int Tryd.underlying3 w1) trodAll_mk0)), rfl, Below.frame hg _, fun h => by cases h⟩

theorem clefInverts_holds : Rows.ClefInvertsSaid :=
  OpenClaim.holds_of_wide 4 Tryd.f4 rfl rfl rfl rfl rfl rfl rfl ⟨rfl, rfl, rfl, rfl, rfl⟩ rfl rfl rfl rfl rfl (by kernel_rfl) Tryd.func4 (by kernel_rfl)
    (of_decide_eq_true (by kernel_rfl)) (by unfold Func.isWrapper; first | (rw [if_pos (by decide +kernel)]; kernel_rfl) | (rw [if_neg (by decide +kernel)]; exact ⟨rfl, rfl⟩))
    (fun os started H enc _ => clefInverts_lifted os started H enc)

theorem clefInverts_card : Rows.ClefInvertsCardSaid :=
  Claim7.holds_tied_plain_at .later [] [.data, .data, .data] true (true, "ae3d3630bcff25fd33e59354a4ec782dc285709024c716b55dd2ba349c01efa0") false
    clefInverts_holds (fun _ h => by cases h) (by kernel_rfl) (fun _ h => by cases h) clefInverts_row_tie rfl ⟨rfl, rfl⟩ (by kernel_rfl) rfl
    (fun f fn hf hfn => by
      obtain rfl : f = 4 := Option.some.inj ((show Tryd.prog.funcNamed "hemiola/hemiolalaw08.ClefInverts" = some 4 by kernel_rfl).symm.trans hf) |>.symm
      obtain rfl : fn = Tryd.f4 := (Option.some.inj (Tryd.func4.symm.trans hfn)).symm
      exact ⟨by kernel_rfl, fun j t ht => by
        rw [Tryd.params4] at ht
        have hm : t ∈ [3, 3] := by simpa using Array.mem_of_getElem? ht
        have hall : ([3, 3].all fun u => !Tryd.prog.wantsStandIn u) = true := by kernel_rfl
        exact (show Tryd.prog.wantsStandIn t = false by simpa using List.all_eq_true.1 hall t hm)⟩)
    (by kernel_rfl)
#print axioms clefInverts_card
end Go.Proofs.YtnakfeamimeioaaDoor
