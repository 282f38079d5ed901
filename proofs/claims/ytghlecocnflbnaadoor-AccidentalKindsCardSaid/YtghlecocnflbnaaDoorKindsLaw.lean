/- AccidentalKinds: for any two numbers, Of and Alter convert alterations and accidentals into one another, or return the specified errors; the arguments read as before; the table that the row lists is tied to the program text; no further condition. -/
import Derived.Test.YtghlecocnflbnaaDoorKnown
import Derived.Test.YtghlecocnflbnaaDoorLaid
namespace Go.Proofs.YtghlecocnflbnaaDoor
open Go.RowKit Go.ChangeShapes Go.WideShapes
attribute [local go_sem] World.cell?_alloc_some

def ofV (a : Int) : Int := if AOk a then a + 3 else 0
def ofE (a : Int) : Int := if AOk a then 0 else 2
theorem Of_any (a : Int) (w : World) : Calls Tryd.prog 25 #[.int .i64 a] w fun e w' => e = .returned (.tuple #[.int .i64 (ofV a), .int .i64 (ofE a)]) ∧ w = w' := by
  by_cases h : AOk a
  · have H := Lib.hid (decide_eq_true h)
    have HV := Lib.hid (show ofV a = a + 3 ∧ ofE a = 0 from ⟨if_pos h, if_pos h⟩)
    have q := IntWalk.i64_in (a + 3) (by unfold AOk at h; omega)
    rw [HV.out.1, HV.out.2]
    clear h HV
    go_enter Tryd.func25, Tryd.ntmps25
    go_wp2_with fail
    refine (isAlter_any a _).mono ?_
    rintro e w1 ⟨rfl, rfl⟩
    rw [H.out]
    go_wp2_with fail
    go_returns
    exact ⟨rfl, rfl⟩
  · have H := Lib.hid (decide_eq_false h)
    have HV := Lib.hid (show ofV a = 0 ∧ ofE a = 2 from ⟨if_neg h, if_neg h⟩)
    rw [HV.out.1, HV.out.2]
    clear h HV
    go_enter Tryd.func25, Tryd.ntmps25
    go_wp2_with fail
    refine (isAlter_any a _).mono ?_
    rintro e w1 ⟨rfl, rfl⟩
    rw [H.out]
    go_wp2_with fail
    go_returns
    exact ⟨rfl, rfl⟩
def alV' (k : Int) : Int := if 1 ≤ k ∧ k ≤ 5 then k - 3 else 0
def alE' (k : Int) : Int := if 1 ≤ k ∧ k ≤ 5 then 0 else 11
theorem Alter_any' (k : Int) (w : World) : Calls Tryd.prog 26 #[.int .i64 k] w fun e w' => e = .returned (.tuple #[.int .i64 (alV' k), .int .i64 (alE' k)]) ∧ w = w' := by
  by_cases h1 : k < 1
  · have HV := Lib.hid (show alV' k = 0 ∧ alE' k = 11 from ⟨if_neg (by omega), if_neg (by omega)⟩)
    rw [HV.out.1, HV.out.2]
    go_enter Tryd.func26, Tryd.ntmps26
    go_wp2_with fail
    go_returns
    exact ⟨rfl, rfl⟩
  by_cases h2 : 5 < k
  · have HV := Lib.hid (show alV' k = 0 ∧ alE' k = 11 from ⟨if_neg (by omega), if_neg (by omega)⟩)
    rw [HV.out.1, HV.out.2]
    go_enter Tryd.func26, Tryd.ntmps26
    go_wp2_with fail
    go_returns
    exact ⟨rfl, rfl⟩
  · have HV := Lib.hid (show alV' k = k - 3 ∧ alE' k = 0 from ⟨if_pos (by omega), if_pos (by omega)⟩)
    have q := IntWalk.i64_in (k - 3) (by omega)
    rw [HV.out.1, HV.out.2]
    go_enter Tryd.func26, Tryd.ntmps26
    go_wp2_with fail
    go_returns
    exact ⟨rfl, rfl⟩
set_option maxRecDepth 100000 in
set_option maxHeartbeats 6400000 in
theorem kinds_walk (a k : Int) (w : World) (_ : -9223372036854775808 ≤ a) (_ : a ≤ 9223372036854775807) (_ : -9223372036854775808 ≤ k) (_ : k ≤ 9223372036854775807) (hT : Tab w) :
    Calls Tryd.prog 11 #[.int .i64 a, .int .i64 k] w fun e w' => e = .returned (.bool true) ∧ G w w' := by
  have HT := Lib.hid hT
  clear hT
  have go : ∀ (A E B M : Int), Hid (ofV a = A ∧ ofE a = E) → Hid (alV' k = B ∧ alE' k = M) → ((-2 ≤ a ∧ a ≤ 2 ∧ A = a + 3 ∧ E = 0) ∨ (a < -2 ∧ A = 0 ∧ E = 2) ∨ (-2 ≤ a ∧ 2 < a ∧ A = 0 ∧ E = 2)) → ((1 ≤ k ∧ k ≤ 5 ∧ B = k - 3 ∧ M = 0) ∨ (k < 1 ∧ B = 0 ∧ M = 11) ∨ (1 ≤ k ∧ 5 < k ∧ B = 0 ∧ M = 11)) → Calls Tryd.prog 11 #[.int .i64 a, .int .i64 k] w fun e w' => e = .returned (.bool true) ∧ G w w' := by
    intro A E B M HO HA h1 h2
    rcases h1 with ⟨a1, a2, rfl, rfl⟩ | ⟨a1, rfl, rfl⟩ | ⟨a1, a2, rfl, rfl⟩ <;> rcases h2 with ⟨k1, k2, rfl, rfl⟩ | ⟨k1, rfl, rfl⟩ | ⟨k1, k2, rfl, rfl⟩
    all_goals
      (try have q1 := IntWalk.i64_in (a + 3) (by omega))
      (try have q2 := IntWalk.i64_in (k - 3) (by omega))
      go_enter Tryd.func11, Tryd.ntmps11
      go_wp2_with fail
      refine (Of_any a _).mono ?_
      rintro e w1 ⟨rfl, rfl⟩
      rw [HO.out.1, HO.out.2]
      go_wp2_with fail
      refine (Alter_any' k _).mono ?_
      rintro e w1 ⟨rfl, rfl⟩
      rw [HA.out.1, HA.out.2]
      go_wp2_with fail
      refine (known_any _ (HT.out.later (by (repeat' (first | (with_reducible exact G.refl _) | (with_reducible assumption) | (with_reducible refine G.drewN ?_ _) | (with_reducible refine G.drew ?_) | (with_reducible refine G.alloc ?_ _) | (with_reducible refine G.setCell ?_ (by first | (with_reducible exact Nat.le_refl _) | (simp; done) | (simp; omega) | omega) _) | (with_reducible refine G.trans ?_ (by assumption))))))).mono ?_
      rintro e w2 ⟨rfl, hG⟩
      go_wp2_with fail
      go_ret
      exact ⟨by first | rfl | simp, by (repeat' (first | (with_reducible exact G.refl _) | (with_reducible assumption) | (with_reducible refine G.drewN ?_ _) | (with_reducible refine G.drew ?_) | (with_reducible refine G.alloc ?_ _) | (with_reducible refine G.setCell ?_ (by first | (with_reducible exact Nat.le_refl _) | (simp; done) | (simp; omega) | omega) _) | (with_reducible refine G.trans ?_ (by assumption))))⟩
  refine go _ _ _ _ (Lib.hid ⟨rfl, rfl⟩) (Lib.hid ⟨rfl, rfl⟩) ?_ ?_
  · unfold ofV ofE
    by_cases h : AOk a
    · rw [if_pos h, if_pos h]; left; exact ⟨h.1, h.2, rfl, rfl⟩
    · rw [if_neg h, if_neg h]
      unfold AOk at h
      by_cases g : a < -2
      · right; left; exact ⟨g, rfl, rfl⟩
      · right; right; exact ⟨by omega, by omega, rfl, rfl⟩
  · unfold alV' alE'
    by_cases h : 1 ≤ k ∧ k ≤ 5
    · rw [if_pos h, if_pos h]; left; exact ⟨h.1, h.2, rfl, rfl⟩
    · rw [if_neg h, if_neg h]
      by_cases g : k < 1
      · right; left; exact ⟨g, rfl, rfl⟩
      · right; right; exact ⟨by omega, by omega, rfl, rfl⟩

/-! ### the row and the card -/
open Go.ChangeShapes Go.WideShapes Go.ChangeAt Go.RowKit
set_option maxRecDepth 100000 in
theorem accidentalKinds_lifted (os : Os) (started : os.Started) (H : Type) (enc : TypeId × Value → H) :
    ReturnsInHanded {} Tryd.checked os 11 .any (fun w args => (Rows.accidentalKindsSpec.pre enc Tryd.prog Tryd.f11 [] false w args ∧ laidMetH Tryd.prog laidL w) ∧ sizedMet enc Tryd.prog Tryd.f11 (OpenSpec.ofChange Rows.accidentalKindsSpec) false w args)
      (Rows.accidentalKindsSpec.post enc Tryd.prog Tryd.f11 false true false false) := by
  refine returnsInHanded_of_change_and (C := Tryd.checked) (X := fun w _ => laidMetH Tryd.prog laidL w) (fun _ _ _ hh h => h.of_heap hh) own started (by kernel_rfl) Tryd.func11
    (ChangeSpec.witness_shaped (enc := enc) (C := Tryd.checked) (os := os) (X := fun w _ => laidMetH Tryd.prog laidL w) false (World.laidAll Tryd.prog os laidL) #[.int .i64 0, .int .i64 0] 8 (World.laidAll_os _ _ _) (shapedL os) (by kernel_rfl) (by kernel_rfl) (by kernel_rfl) (laid_met os _)) ?_
  intro W base args ds gs before hval0 hW _ _ hL _
  have hval : ∀ (j : Nat) t v, Tryd.f11.params[j]? = some t → args[j]? = some v → Value.okWide Tryd.prog W .any base t v := hval0
  have hW' := hW
  obtain ⟨p, q, hA0, hV, rfl, hfz, hnd⟩ := hW
  have hA : DataW.TrodAll enc Tryd.prog W 0 (fun _ => true) true Tryd.f11.params.toList args.toList ds p := hA0
  rw [Tryd.params11] at hA hval
  obtain ⟨v0, vs0, d0, ds0, p0, q0, hargs, rfl, rfl, h0, r0⟩ := trodAll_cons hA
  obtain ⟨v1, vs1, d1, ds1, p1, q1, rfl, rfl, rfl, h1, r1⟩ := trodAll_cons r0
  obtain ⟨rfl, rfl, rfl⟩ := trodAll_nil r1
  obtain rfl : args = #[v0, v1] := by cases args; simp_all
  obtain ⟨rfl, rfl⟩ := trodVars_none hV
  obtain ⟨a0, rfl, rfl, rfl, w0⟩ := open_int Tryd.underlying3 (hval 0 3 v0 rfl rfl) h0
  obtain ⟨bl0, bh0⟩ := bounds_i64 w0
  obtain ⟨a1, rfl, rfl, rfl, w1⟩ := open_int Tryd.underlying3 (hval 1 3 v1 rfl rfl) h1
  obtain ⟨bl1, bh1⟩ := bounds_i64 w1
  clear hA0 hval0
  simp only [List.append_nil] at hW'
  refine (kinds_walk a0 a1 W bl0 bh0 bl1 bh1  (tab_of_laid hL)).mono fun e W' ⟨he, hg⟩ => ?_
  subst he
  exact ⟨_, rfl, _, _, _, [], [], [], hW', (trodAll_cons_mk (shut_bool Tryd.underlying4 _) trodAll_mk0), (trodAll_cons_mk (shut_int Tryd.underlying3 w0) (trodAll_cons_mk (shut_int Tryd.underlying3 w1) trodAll_mk0)), rfl, Below.frame hg _, fun h => by cases h⟩

theorem accidentalKinds_holds : Rows.AccidentalKindsSaid :=
  OpenClaim.holds_of_wide 11 Tryd.f11 rfl rfl rfl rfl rfl rfl rfl ⟨rfl, rfl, rfl, rfl, rfl⟩ rfl rfl rfl rfl rfl (by kernel_rfl) Tryd.func11 (by kernel_rfl)
    (of_decide_eq_true (by kernel_rfl)) (by unfold Func.isWrapper; first | (rw [if_pos (by decide +kernel)]; kernel_rfl) | (rw [if_neg (by decide +kernel)]; exact ⟨rfl, rfl⟩))
    (fun os started H enc _ => accidentalKinds_lifted os started H enc)

theorem accidentalKinds_card : Rows.AccidentalKindsCardSaid :=
  Claim7.holds_tied_plain_at .later [] [.data] true (true, "4264632c309685b5b10934852733a39ae7af05b3fbb51cbce9b1665c55e2b979") false
    accidentalKinds_holds (fun _ h => by cases h) (by kernel_rfl) (fun _ h => by cases h) accidentalKinds_row_tie rfl ⟨rfl, rfl⟩ (by kernel_rfl) rfl
    (fun f fn hf hfn => by
      obtain rfl : f = 11 := Option.some.inj ((show Tryd.prog.funcNamed "hemiola/hemiolalaw10.AccidentalKinds" = some 11 by kernel_rfl).symm.trans hf) |>.symm
      obtain rfl : fn = Tryd.f11 := (Option.some.inj (Tryd.func11.symm.trans hfn)).symm
      exact ⟨by kernel_rfl, fun j t ht => by
        rw [Tryd.params11] at ht
        have hm : t ∈ [3, 3] := by simpa using Array.mem_of_getElem? ht
        have hall : ([3, 3].all fun u => !Tryd.prog.wantsStandIn u) = true := by kernel_rfl
        exact (show Tryd.prog.wantsStandIn t = false by simpa using List.all_eq_true.1 hall t hm)⟩)
    (by kernel_rfl)
#print axioms accidentalKinds_card
end Go.Proofs.YtghlecocnflbnaaDoor
