/- KeyTonics: for every number of fifths, either mode and every tonic, Tonic and Of return what the reference returns, or the errors, and Of leads back from the tonic; the arguments read as before; the tables that the row lists are tied to the program text; no further condition. -/
import Derived.Test.YtdiokagnpiiijaaDoorKnown
import Derived.Test.YtdiokagnpiiijaaDoorLaid
import Derived.Test.YtdiokagnpiiijaaDoorArr
import Derived.Test.YtdiokagnpiiijaaDoorROf
namespace Go.Proofs.YtdiokagnpiiijaaDoor
open Go.RowKit
attribute [local go_sem] World.cell?_alloc_some

theorem of_back {f : Int} (m : Bool) (h : Sg f) : ofN (tS (f + mi m)) (tA (f + mi m)) m = f ∧ ofE (tS (f + mi m)) (tA (f + mi m)) m = 0 := by
  have b := mi_bd m
  have tb := tS_bd (f + mi m)
  obtain ⟨f0, f1⟩ := id h
  have ab := tA_bd (n := f + mi m) (by omega) (by omega)
  have c : Cl (tS (f + mi m)) (tA (f + mi m)) := ⟨tb, by omega, by omega⟩
  unfold ofN ofE
  rw [pl_t, show f + mi m - mi m = f by omega, if_pos ⟨c, h⟩, if_pos c, ck_ok h]
  exact ⟨rfl, rfl⟩

set_option maxRecDepth 20000 in
set_option maxHeartbeats 3200000 in
theorem tonics_walk (f : Int) (m : Bool) (s a : Int) (w : World) (_ : -9223372036854775808 ≤ f) (_ : f ≤ 9223372036854775807) (_ : -9223372036854775808 ≤ s) (_ : s ≤ 9223372036854775807) (_ : -9223372036854775808 ≤ a) (_ : a ≤ 9223372036854775807) (hT : Tab w) :
    Calls Tryd.prog 4 #[.int .i64 f, .bool m, .agg #[.int .i64 s, .int .i64 a]] w fun e w' => e = .returned (.bool true) ∧ G w w' := by
  have HT := Lib.hid hT
  clear hT
  obtain ⟨X, hX⟩ : ∃ z : Int, Hid (z = ofN s a m) := ⟨_, rfl⟩
  obtain ⟨Y, hY⟩ : ∃ z : Int, Hid (z = ofE s a m) := ⟨_, rfl⟩
  by_cases h : Sg f
  · have HS := Lib.hid h
    have HB := Lib.hid (of_back m h)
    obtain ⟨U, hU⟩ : ∃ z : Int, Hid (z = tS (f + mi m)) := ⟨_, rfl⟩
    obtain ⟨V, hV⟩ : ∃ z : Int, Hid (z = tA (f + mi m)) := ⟨_, rfl⟩
    rw [← hU.out, ← hV.out] at HB
    clear h
    go_enter Tryd.func4, Tryd.ntmps4
    go_wp2_with fail
    refine (Tonic_ok f m _ HS.out (HT.out.later (by (repeat' (first | (with_reducible exact G.refl _) | (with_reducible assumption) | (with_reducible refine G.drewN ?_ _) | (with_reducible refine G.drew ?_) | (with_reducible refine G.alloc ?_ _) | (with_reducible refine G.setCell ?_ (by first | (with_reducible exact Nat.le_refl _) | (simp; done) | (simp; omega) | omega) _) | (with_reducible refine G.trans ?_ (by assumption))))))).mono ?_
    rintro e w1 ⟨rfl, rfl⟩
    rw [← hU.out, ← hV.out]
    go_wp2_with fail
    refine (Of_any s a m _ (HT.out.later (by (repeat' (first | (with_reducible exact G.refl _) | (with_reducible assumption) | (with_reducible refine G.drewN ?_ _) | (with_reducible refine G.drew ?_) | (with_reducible refine G.alloc ?_ _) | (with_reducible refine G.setCell ?_ (by first | (with_reducible exact Nat.le_refl _) | (simp; done) | (simp; omega) | omega) _) | (with_reducible refine G.trans ?_ (by assumption))))))).mono ?_
    rintro e w1 ⟨rfl, rfl⟩
    rw [← hX.out, ← hY.out]
    go_wp2_with fail
    refine (rOf_any s a m _).mono ?_
    rintro e w2 ⟨rfl, hG2⟩
    rw [← hX.out, ← hY.out]
    go_wp2_with fail
    refine (known_any _ (HT.out.later (by (repeat' (first | (with_reducible exact G.refl _) | (with_reducible assumption) | (with_reducible refine G.drewN ?_ _) | (with_reducible refine G.drew ?_) | (with_reducible refine G.alloc ?_ _) | (with_reducible refine G.setCell ?_ (by first | (with_reducible exact Nat.le_refl _) | (simp; done) | (simp; omega) | omega) _) | (with_reducible refine G.trans ?_ (by assumption))))))).mono ?_
    rintro e w3 ⟨rfl, hG3⟩
    go_wp2_with fail
    refine (rIs_any f _).mono ?_
    rintro e w4 ⟨rfl, rfl⟩
    rw [decide_eq_true HS.out]
    go_wp2_with fail
    refine (rTonic_any f m _ HS.out).mono ?_
    rintro e w5 ⟨rfl, hG5⟩
    rw [← hU.out, ← hV.out]
    go_wp2_with fail
    refine (Of_any U V m _ (HT.out.later (by (repeat' (first | (with_reducible exact G.refl _) | (with_reducible assumption) | (with_reducible refine G.drewN ?_ _) | (with_reducible refine G.drew ?_) | (with_reducible refine G.alloc ?_ _) | (with_reducible refine G.setCell ?_ (by first | (with_reducible exact Nat.le_refl _) | (simp; done) | (simp; omega) | omega) _) | (with_reducible refine G.trans ?_ (by assumption))))))).mono ?_
    rintro e w6 ⟨rfl, rfl⟩
    rw [HB.out.1, HB.out.2]
    go_wp2_with fail
    go_ret
    exact ⟨rfl, by (repeat' (first | (with_reducible exact G.refl _) | (with_reducible assumption) | (with_reducible refine G.drewN ?_ _) | (with_reducible refine G.drew ?_) | (with_reducible refine G.alloc ?_ _) | (with_reducible refine G.setCell ?_ (by first | (with_reducible exact Nat.le_refl _) | (simp; done) | (simp; omega) | omega) _) | (with_reducible refine G.trans ?_ (by assumption))))⟩
  · have HS := Lib.hid h
    clear h
    go_enter Tryd.func4, Tryd.ntmps4
    go_wp2_with fail
    refine (Tonic_bad f m _ HS.out).mono ?_
    rintro e w1 ⟨rfl, rfl⟩
    go_wp2_with fail
    refine (Of_any s a m _ (HT.out.later (by (repeat' (first | (with_reducible exact G.refl _) | (with_reducible assumption) | (with_reducible refine G.drewN ?_ _) | (with_reducible refine G.drew ?_) | (with_reducible refine G.alloc ?_ _) | (with_reducible refine G.setCell ?_ (by first | (with_reducible exact Nat.le_refl _) | (simp; done) | (simp; omega) | omega) _) | (with_reducible refine G.trans ?_ (by assumption))))))).mono ?_
    rintro e w1 ⟨rfl, rfl⟩
    rw [← hX.out, ← hY.out]
    go_wp2_with fail
    refine (rOf_any s a m _).mono ?_
    rintro e w2 ⟨rfl, hG2⟩
    rw [← hX.out, ← hY.out]
    go_wp2_with fail
    refine (known_any _ (HT.out.later (by (repeat' (first | (with_reducible exact G.refl _) | (with_reducible assumption) | (with_reducible refine G.drewN ?_ _) | (with_reducible refine G.drew ?_) | (with_reducible refine G.alloc ?_ _) | (with_reducible refine G.setCell ?_ (by first | (with_reducible exact Nat.le_refl _) | (simp; done) | (simp; omega) | omega) _) | (with_reducible refine G.trans ?_ (by assumption))))))).mono ?_
    rintro e w3 ⟨rfl, hG3⟩
    go_wp2_with fail
    refine (rIs_any f _).mono ?_
    rintro e w4 ⟨rfl, rfl⟩
    rw [decide_eq_false HS.out]
    go_wp2_with fail
    go_ret
    exact ⟨rfl, by (repeat' (first | (with_reducible exact G.refl _) | (with_reducible assumption) | (with_reducible refine G.drewN ?_ _) | (with_reducible refine G.drew ?_) | (with_reducible refine G.alloc ?_ _) | (with_reducible refine G.setCell ?_ (by first | (with_reducible exact Nat.le_refl _) | (simp; done) | (simp; omega) | omega) _) | (with_reducible refine G.trans ?_ (by assumption))))⟩

/-! ### the row and the card -/
open Go.ChangeShapes Go.WideShapes Go.ChangeAt Go.RowKit
set_option maxRecDepth 100000 in
theorem keyTonics_lifted (os : Os) (started : os.Started) (H : Type) (enc : TypeId × Value → H) :
    ReturnsInHanded {} Tryd.checked os 4 .any (fun w args => (Rows.keyTonicsSpec.pre enc Tryd.prog Tryd.f4 [] false w args ∧ laidMetH Tryd.prog laidL w) ∧ sizedMet enc Tryd.prog Tryd.f4 (OpenSpec.ofChange Rows.keyTonicsSpec) false w args)
      (Rows.keyTonicsSpec.post enc Tryd.prog Tryd.f4 false true false false) := by
  refine returnsInHanded_of_change_and (C := Tryd.checked) (X := fun w _ => laidMetH Tryd.prog laidL w) (fun _ _ _ hh h => h.of_heap hh) own started (by kernel_rfl) Tryd.func4
    (ChangeSpec.witness_shaped (enc := enc) (C := Tryd.checked) (os := os) (X := fun w _ => laidMetH Tryd.prog laidL w) false (World.laidAll Tryd.prog os laidL) #[.int .i64 0, .bool false, .agg #[.int .i64 0, .int .i64 0]] 8 (World.laidAll_os _ _ _) (shapedL os) (by kernel_rfl) (by kernel_rfl) (by kernel_rfl) (laid_met os _)) ?_
  intro W base args ds gs before hval0 hW _ _ hL _
  have hval : ∀ (j : Nat) t v, Tryd.f4.params[j]? = some t → args[j]? = some v → Value.okWide Tryd.prog W .any base t v := hval0
  have hW' := hW
  obtain ⟨p, q, hA0, hV, rfl, hfz, hnd⟩ := hW
  have hA : DataW.TrodAll enc Tryd.prog W 0 (fun _ => true) true Tryd.f4.params.toList args.toList ds p := hA0
  rw [Tryd.params4] at hA hval
  obtain ⟨v0, vs0, d0, ds0, p0, q0, hargs, rfl, rfl, h0, r0⟩ := trodAll_cons hA
  obtain ⟨v1, vs1, d1, ds1, p1, q1, rfl, rfl, rfl, h1, r1⟩ := trodAll_cons r0
  obtain ⟨v2, vs2, d2, ds2, p2, q2, rfl, rfl, rfl, h2, r2⟩ := trodAll_cons r1
  obtain ⟨rfl, rfl, rfl⟩ := trodAll_nil r2
  obtain rfl : args = #[v0, v1, v2] := by cases args; simp_all
  obtain ⟨rfl, rfl⟩ := trodVars_none hV
  obtain ⟨a0, rfl, rfl, rfl, w0⟩ := open_int Tryd.underlying3 (hval 0 3 v0 rfl rfl) h0
  obtain ⟨bl0, bh0⟩ := bounds_i64 w0
  obtain ⟨a1, rfl, rfl, rfl⟩ := open_bool Tryd.underlying4 (hval 1 4 v1 rfl rfl) h1
  obtain ⟨a2, b2, rfl, rfl, rfl, w2, u2⟩ := open_arr2 (hval 2 35 v2 rfl rfl) h2
  obtain ⟨bl2, bh2⟩ := bounds_i64 w2
  obtain ⟨cl2, ch2⟩ := bounds_i64 u2
  clear hA0 hval0
  simp only [List.append_nil] at hW'
  refine (tonics_walk a0 a1 a2 b2 W bl0 bh0  bl2 bh2 cl2 ch2  (tab_of_laid hL)).mono fun e W' ⟨he, hg⟩ => ?_
  subst he
  exact ⟨_, rfl, _, _, _, [], [], [], hW', (trodAll_cons_mk (shut_bool Tryd.underlying4 _) trodAll_mk0), (trodAll_cons_mk (shut_int Tryd.underlying3 w0) (trodAll_cons_mk (shut_bool Tryd.underlying4 _) (trodAll_cons_mk (shut_arr2 w2 u2) trodAll_mk0))), rfl, Below.frame hg _, fun h => by cases h⟩

theorem keyTonics_holds : Rows.KeyTonicsSaid :=
  OpenClaim.holds_of_wide 4 Tryd.f4 rfl rfl rfl rfl rfl rfl rfl ⟨rfl, rfl, rfl, rfl, rfl⟩ rfl rfl rfl rfl rfl (by kernel_rfl) Tryd.func4 (by kernel_rfl)
    (of_decide_eq_true (by kernel_rfl)) (by unfold Func.isWrapper; first | (rw [if_pos (by decide +kernel)]; kernel_rfl) | (rw [if_neg (by decide +kernel)]; exact ⟨rfl, rfl⟩))
    (fun os started H enc _ => keyTonics_lifted os started H enc)

theorem keyTonics_card : Rows.KeyTonicsCardSaid :=
  Claim7.holds_tied_plain_at .later [] [.data, .data] true (true, "2117eec5325c27370f2aa61ddd4a23a865e68bbc1d9bb0ef2c27e10075a20c79") false
    keyTonics_holds (fun _ h => by cases h) (by kernel_rfl) (fun _ h => by cases h) keyTonics_row_tie rfl ⟨rfl, rfl⟩ (by kernel_rfl) rfl
    (fun f fn hf hfn => by
      obtain rfl : f = 4 := Option.some.inj ((show Tryd.prog.funcNamed "hemiola/hemiolalaw07.KeyTonics" = some 4 by kernel_rfl).symm.trans hf) |>.symm
      obtain rfl : fn = Tryd.f4 := (Option.some.inj (Tryd.func4.symm.trans hfn)).symm
      exact ⟨by kernel_rfl, fun j t ht => by
        rw [Tryd.params4] at ht
        have hm : t ∈ [3, 4, 35] := by simpa using Array.mem_of_getElem? ht
        have hall : ([3, 4, 35].all fun u => !Tryd.prog.wantsStandIn u) = true := by kernel_rfl
        exact (show Tryd.prog.wantsStandIn t = false by simpa using List.all_eq_true.1 hall t hm)⟩)
    (by kernel_rfl)
#print axioms keyTonics_card
end Go.Proofs.YtdiokagnpiiijaaDoor
