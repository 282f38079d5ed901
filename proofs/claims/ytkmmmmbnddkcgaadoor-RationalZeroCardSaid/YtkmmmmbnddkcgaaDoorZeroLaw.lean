/- RationalZero: for every number n the law of the zero value returns true, and n reads as before; the tables that the row lists are tied to the program's text; no further condition. -/
import Derived.Test.YtkmmmmbnddkcgaaDoorLaid
namespace Go.Proofs.YtkmmmmbnddkcgaaDoor
open Go.RowKit QM

theorem of_zero_num {d : Int} (h : 1 ≤ d) : oN 0 d = 0 ∧ oD 0 d - 1 = 0 ∧ oE 0 d = 0 := by
  obtain ⟨a, b, c⟩ := @o_found 0 d 0 1 (by omega) (by omega) (by omega) (by omega) (by omega) (by decide) (by simp)
  exact ⟨b, by omega, a⟩
theorem txt_zero : txt 0 0 = [48] := by
  have a : Lib.decDigits 0 = [48] := by rw [Lib.decDigits]; rfl
  unfold txt Lib.itoa
  rw [if_neg (by decide), if_neg (by decide)]
  show Lib.decDigits 0 ++ [] = _
  rw [a]; rfl

set_option maxHeartbeats 1600000 in
theorem zero_walk (n : Int) (w : World) (h1 : -9223372036854775808 ≤ n) (h2 : n ≤ 9223372036854775807) (hT : Tab w) :
    Calls Tryd.prog 13 #[.int .i64 n] w fun e w' => e = .returned (.bool true) ∧ G w w' := by
  have HT := Lib.hid hT
  clear hT
  obtain ⟨d, hd, d1, d2⟩ : ∃ d : Int, d = max n 1 ∧ 1 ≤ d ∧ d ≤ 9223372036854775807 := ⟨_, rfl, by omega, by omega⟩
  have HD := Lib.hid hd
  clear hd
  obtain ⟨e1, e2, e3⟩ := of_zero_num d1
  obtain ⟨i1, i2, i3⟩ := @of_zero_num 1 (by omega)
  have HE := Lib.hid (show oN 0 d = 0 ∧ oD 0 d - 1 = 0 ∧ oE 0 d = 0 from ⟨e1, e2, e3⟩)
  have HI := Lib.hid (show oN 0 1 = 0 ∧ oD 0 1 - 1 = 0 ∧ oE 0 1 = 0 from ⟨i1, i2, i3⟩)
  clear e1 e2 e3 i1 i2 i3
  go_enter Tryd.func13, Tryd.ntmps13
  go_wp2_with fail
  rw [← HD.out]
  refine (Of_any 0 d _ (by omega) (by omega) (by omega) (by omega)).mono ?_
  rintro e w1 ⟨rfl, hG1⟩
  rw [HE.out.1, HE.out.2.1, HE.out.2.2]
  have x1 : G (w.alloc (.cells #[.int .i64 0, .int .i64 0] 23)) w1 := by (repeat' (first | (with_reducible exact G.refl _) | (with_reducible assumption) | (with_reducible refine G.drewN ?_ _) | (with_reducible refine G.drew ?_) | (with_reducible refine G.alloc ?_ _) | (with_reducible refine G.setCell ?_ (by first | (with_reducible exact Nat.le_refl _) | (simp; done) | (simp; omega) | omega) _) | (with_reducible refine G.trans ?_ (by assumption))))
  go_wp2_with fail
  refine (Int_any 0 _ (by omega) (by omega)).mono ?_
  rintro e w2 ⟨rfl, hG2⟩
  rw [HI.out.1, HI.out.2.1, HI.out.2.2]
  go_wp2_with fail
  refine (known_any _ (HT.out.later (by (repeat' (first | (with_reducible exact G.refl _) | (with_reducible assumption) | (with_reducible refine G.drewN ?_ _) | (with_reducible refine G.drew ?_) | (with_reducible refine G.alloc ?_ _) | (with_reducible refine G.setCell ?_ (by first | (with_reducible exact Nat.le_refl _) | (simp; done) | (simp; omega) | omega) _) | (with_reducible refine G.trans ?_ (by assumption))))))).mono ?_
  rintro e w3 ⟨rfl, hG3⟩
  have y3 : G (w1.alloc (.cells #[.int .i64 0, .int .i64 0] 23)) w3 := by (repeat' (first | (with_reducible exact G.refl _) | (with_reducible assumption) | (with_reducible refine G.drewN ?_ _) | (with_reducible refine G.drew ?_) | (with_reducible refine G.alloc ?_ _) | (with_reducible refine G.setCell ?_ (by first | (with_reducible exact Nat.le_refl _) | (simp; done) | (simp; omega) | omega) _) | (with_reducible refine G.trans ?_ (by assumption))))
  have z3 : G (w2.alloc (.cells #[.int .i64 0, .int .i64 0] 23)) w3 := by (repeat' (first | (with_reducible exact G.refl _) | (with_reducible assumption) | (with_reducible refine G.drewN ?_ _) | (with_reducible refine G.drew ?_) | (with_reducible refine G.alloc ?_ _) | (with_reducible refine G.setCell ?_ (by first | (with_reducible exact Nat.le_refl _) | (simp; done) | (simp; omega) | omega) _) | (with_reducible refine G.trans ?_ (by assumption))))
  have x3 : G (w.alloc (.cells #[.int .i64 0, .int .i64 0] 23)) w3 := by (repeat' (first | (with_reducible exact G.refl _) | (with_reducible assumption) | (with_reducible refine G.drewN ?_ _) | (with_reducible refine G.drew ?_) | (with_reducible refine G.alloc ?_ _) | (with_reducible refine G.setCell ?_ (by first | (with_reducible exact Nat.le_refl _) | (simp; done) | (simp; omega) | omega) _) | (with_reducible refine G.trans ?_ (by assumption))))
  obtain ⟨a1, a2⟩ := box_later x3
  obtain ⟨b1, b2⟩ := box_later y3
  obtain ⟨c1, c2⟩ := box_later z3
  go_wp2_with fail
  refine (Num_new _ _ _).mono ?_
  rintro e w4 ⟨rfl, hG4⟩
  clear a1 a2 b1 b2 c1 c2
  have x4 : G (w.alloc (.cells #[.int .i64 0, .int .i64 0] 23)) w4 := x3.trans hG4
  obtain ⟨a1, a2⟩ := box_later x4
  go_wp2_with fail
  refine (Den_new _ _ _ (by omega) (by omega)).mono ?_
  rintro e w5 ⟨rfl, hG5⟩
  clear a1 a2
  have x5 : G (w.alloc (.cells #[.int .i64 0, .int .i64 0] 23)) w5 := x4.trans hG5
  obtain ⟨a1, a2⟩ := box_later x5
  have t5 : Tab w5 := HT.out.later (G.trans (by (repeat' (first | (with_reducible exact G.refl _) | (with_reducible assumption) | (with_reducible refine G.drewN ?_ _) | (with_reducible refine G.drew ?_) | (with_reducible refine G.alloc ?_ _) | (with_reducible refine G.setCell ?_ (by first | (with_reducible exact Nat.le_refl _) | (simp; done) | (simp; omega) | omega) _) | (with_reducible refine G.trans ?_ (by assumption))))) x5)
  have T5 := Lib.hid t5
  clear t5
  go_wp2_with fail
  refine (Text_any _ _ _ cn_zero T5.out).mono ?_
  rintro e w6 ⟨rfl, hG6⟩
  rw [show (⟨(txt 0 0).toArray⟩ : ByteArray) = ⟨#[48]⟩ by rw [txt_zero]]
  clear a1 a2
  have x6 : G (w.alloc (.cells #[.int .i64 0, .int .i64 0] 23)) w6 := x5.trans hG6
  obtain ⟨a1, a2⟩ := box_later x6
  go_wp2_with fail
  refine (Sign_any _ _ _ cn_zero).mono ?_
  rintro e w7 ⟨rfl, hG7⟩
  rw [cm_self]
  go_wp2
  go_ret
  exact ⟨rfl, G.trans (by (repeat' (first | (with_reducible exact G.refl _) | (with_reducible assumption) | (with_reducible refine G.drewN ?_ _) | (with_reducible refine G.drew ?_) | (with_reducible refine G.alloc ?_ _) | (with_reducible refine G.setCell ?_ (by first | (with_reducible exact Nat.le_refl _) | (simp; done) | (simp; omega) | omega) _) | (with_reducible refine G.trans ?_ (by assumption))))) (x6.trans hG7)⟩

/-! ### the row and the card -/
open Go.ChangeShapes Go.WideShapes Go.ChangeAt Go.RowKit
set_option maxRecDepth 100000 in
theorem rationalZero_lifted (os : Os) (started : os.Started) (H : Type) (enc : TypeId × Value → H) :
    ReturnsInHanded {} Tryd.checked os 13 .any (fun w args => (Rows.rationalZeroSpec.pre enc Tryd.prog Tryd.f13 [] false w args ∧ laidMetH Tryd.prog laidL w) ∧ sizedMet enc Tryd.prog Tryd.f13 (OpenSpec.ofChange Rows.rationalZeroSpec) false w args)
      (Rows.rationalZeroSpec.post enc Tryd.prog Tryd.f13 false true false false) := by
  refine returnsInHanded_of_change_and (C := Tryd.checked) (X := fun w _ => laidMetH Tryd.prog laidL w) (fun _ _ _ hh h => h.of_heap hh) own started (by kernel_rfl) Tryd.func13
    (ChangeSpec.witness_shaped (enc := enc) (C := Tryd.checked) (os := os) (X := fun w _ => laidMetH Tryd.prog laidL w) false (World.doorLaid Tryd.prog 29 os) #[.int .i64 0] 8 rfl (World.shaped_of_RefB (by kernel_rfl) (by kernel_rfl)) (by kernel_rfl) (by kernel_rfl) (by kernel_rfl) (door_met os _)) ?_
  intro W base args ds gs before hval0 hW _ _ hL _
  have hval : ∀ (j : Nat) t v, Tryd.f13.params[j]? = some t → args[j]? = some v → Value.okWide Tryd.prog W .any base t v := hval0
  have hW' := hW
  obtain ⟨p, q, hA0, hV, rfl, hfz, hnd⟩ := hW
  have hA : DataW.TrodAll enc Tryd.prog W 0 (fun _ => true) true Tryd.f13.params.toList args.toList ds p := hA0
  rw [Tryd.params13] at hA hval
  obtain ⟨v0, vs0, d0, ds0, p0, q0, hargs, rfl, rfl, h0, r0⟩ := trodAll_cons hA
  obtain ⟨rfl, rfl, rfl⟩ := trodAll_nil r0
  obtain rfl : args = #[v0] := by cases args; simp_all
  obtain ⟨rfl, rfl⟩ := trodVars_none hV
  obtain ⟨a0, rfl, rfl, rfl, w0⟩ := open_int Tryd.underlying3 (hval 0 3 v0 rfl rfl) h0
  obtain ⟨bl0, bh0⟩ := bounds_i64 w0
  clear hA0 hval0
  simp only [List.append_nil] at hW'
  refine (zero_walk a0 W bl0 bh0  (tab_of_laid hL)).mono fun e W' ⟨he, hg⟩ => ?_
  subst he
  exact ⟨_, rfl, _, _, _, [], [], [], hW', (trodAll_cons_mk (shut_bool Tryd.underlying4 _) trodAll_mk0), (trodAll_cons_mk (shut_int Tryd.underlying3 w0) trodAll_mk0), rfl, Below.frame hg _, fun h => by cases h⟩

theorem rationalZero_holds : Rows.RationalZeroSaid :=
  OpenClaim.holds_of_wide 13 Tryd.f13 rfl rfl rfl rfl rfl rfl rfl ⟨rfl, rfl, rfl, rfl, rfl⟩ rfl rfl rfl rfl rfl (by kernel_rfl) Tryd.func13 (by kernel_rfl)
    (of_decide_eq_true (by kernel_rfl)) (by unfold Func.isWrapper; first | (rw [if_pos (by decide +kernel)]; kernel_rfl) | (rw [if_neg (by decide +kernel)]; exact ⟨rfl, rfl⟩))
    (fun os started H enc _ => rationalZero_lifted os started H enc)

theorem rationalZero_card : Rows.RationalZeroCardSaid :=
  Claim7.holds_tied_plain_at .later [] [.data, .data, .data] true (true, "a73df68f7bdbbf7be44568381a2183df4cb4db464f041c98de75f5391495dad9") false
    rationalZero_holds (fun _ h => by cases h) (by kernel_rfl) (fun _ h => by cases h) rationalZero_row_tie rfl ⟨rfl, rfl⟩ (by kernel_rfl) rfl
    (fun f fn hf hfn => by
      obtain rfl : f = 13 := Option.some.inj ((show Tryd.prog.funcNamed "hemiola/hemiolalaw01.RationalZero" = some 13 by kernel_rfl).symm.trans hf) |>.symm
      obtain rfl : fn = Tryd.f13 := (Option.some.inj (Tryd.func13.symm.trans hfn)).symm
      exact ⟨by kernel_rfl, fun j t ht => by
        rw [Tryd.params13] at ht
        have hm : t ∈ [3] := by simpa using Array.mem_of_getElem? ht
        have hall : ([3].all fun u => !Tryd.prog.wantsStandIn u) = true := by kernel_rfl
        exact (show Tryd.prog.wantsStandIn t = false by simpa using List.all_eq_true.1 hall t hm)⟩)
    (by kernel_rfl)
#print axioms rationalZero_card
end Go.Proofs.YtkmmmmbnddkcgaaDoor
