/- RationalTexts: for every pair of numbers, brought into the limits, Text returns the text of the reference and Parse reads it back; the argument reads as before; the tables that the row lists are tied to the program text; no further condition. -/
import Derived.Test.YtkmmmmbnddkcgaaDoorArr
import Derived.Test.YtkmmmmbnddkcgaaDoorTextMath
import Derived.Deep.RegionHeld3
import Derived.Deep.DeepCutAuto
namespace Go.Proofs.YtkmmmmbnddkcgaaDoor
open Go.RowKit QM QB QP
attribute [local go_sem] World.cell?_alloc_some

theorem txt_len {N O : Int} (h : Cn N O) : (txt N O).length ≤ 30 := by
  obtain ⟨a1, a2, a3, a4, _⟩ := h
  have n1 := nd_le 9 N.natAbs (by simp; omega)
  have n2 := nd_le 9 N.toNat (by simp; omega)
  have n3 := nd_le 9 (O + 1).toNat (by simp; omega)
  have e1 : (Lib.itoa N).length ≤ 11 := by
    unfold Lib.itoa
    split
    · rw [List.length_cons, Lib.decDigits_length]; omega
    · rw [Lib.decDigits_length]; omega
  have e2 : (Lib.itoa (O + 1)).length ≤ 11 := by
    unfold Lib.itoa
    rw [if_neg (by omega), Lib.decDigits_length]; omega
  unfold txt
  rw [List.length_append]
  split
  · rw [List.length_cons]; omega
  · simp; omega
theorem Text_is (N O : Int) (s : ByteArray) (w : World) (h : Cn N O) (hs : Hid (s = ⟨(txt N O).toArray⟩)) (hT : Tab w) :
    Calls Tryd.prog 40 #[.agg #[.int .i64 N, .int .i64 O]] w fun e w' => e = .returned (.string s) ∧ G w w' := by
  rw [hs.out]; exact Text_any N O w h hT
theorem rText_is (N O : Int) (s : ByteArray) (w : World) (h : Cn N O) (hs : Hid (s = ⟨(txt N O).toArray⟩)) :
    Calls Tryd.prog 41 #[.agg #[.int .i64 N, .int .i64 (O + 1)]] w fun e w' => e = .returned (.string s) ∧ G w w' := by
  rw [hs.out]; exact rText_any N O w h
theorem Parse_txt (N O : Int) (s : ByteArray) (w : World) (h : Cn N O) (hs : Hid (s = ⟨(txt N O).toArray⟩)) (hT : Tab w) :
    Calls Tryd.prog 39 #[.string s] w fun e w' => e = .returned (.tuple #[.agg #[.int .i64 N, .int .i64 O], .int .i64 0, .int .i64 0]) ∧ G w w' := by
  have l := txt_len h
  have e : s.data.toList = txt N O := by rw [hs.out]
  refine (Parse_any s w (by rw [hs.out]; simp only [ByteArray.size, List.size_toArray]; omega) hT).mono ?_
  rintro e1 w1 ⟨p, hG⟩
  unfold ParseIs at p
  rw [e, parse_txt h] at p
  exact ⟨p, hG⟩

set_option maxRecDepth 100000 in
set_option maxHeartbeats 3200000 in
theorem texts_walk (a b : Int) (w : World) (h1 : -9223372036854775808 ≤ a) (h2 : a ≤ 9223372036854775807) (h3 : -9223372036854775808 ≤ b) (h4 : b ≤ 9223372036854775807) (hT : Tab w) :
    Calls Tryd.prog 10 #[.agg #[.int .i64 a, .int .i64 b]] w fun e w' => e = .returned (.bool true) ∧ G w w' := by
  have HT := Lib.hid hT
  clear hT
  go_enter Tryd.func10, Tryd.ntmps10
  go_wp2_with fail
  refine (of_any a b _ h1 h2 h3 h4).mono ?_
  rintro e w1 ⟨N, O, hN, rfl, hG1⟩
  obtain ⟨s, Hs⟩ : ∃ s : ByteArray, Hid (s = ⟨(txt N O).toArray⟩) := ⟨_, rfl⟩
  have gw1 : G w w1 := G.trans (by (repeat' (first | (with_reducible exact G.refl _) | (with_reducible assumption) | (with_reducible refine G.drewN ?_ _) | (with_reducible refine G.drew ?_) | (with_reducible refine G.alloc ?_ _) | (with_reducible refine G.setCell ?_ (by first | (with_reducible exact Nat.le_refl _) | (simp; done) | (simp; omega) | omega) _) | (with_reducible refine G.trans ?_ (by assumption))))) hG1
  have g0x1 : G (w.alloc (.cells #[.int .i64 (a), .int .i64 (b)] 35)) w1 := G.trans (by (repeat' (first | (with_reducible exact G.refl _) | (with_reducible assumption) | (with_reducible refine G.drewN ?_ _) | (with_reducible refine G.drew ?_) | (with_reducible refine G.alloc ?_ _) | (with_reducible refine G.setCell ?_ (by first | (with_reducible exact Nat.le_refl _) | (simp; done) | (simp; omega) | omega) _) | (with_reducible refine G.trans ?_ (by assumption))))) hG1
  obtain ⟨c0a, c0b⟩ := box_later g0x1
  go_wp2_with fail
  refine (Text_is N O s _ hN Hs (HT.out.later (by (repeat' (first | (with_reducible exact G.refl _) | (with_reducible assumption) | (with_reducible refine G.drewN ?_ _) | (with_reducible refine G.drew ?_) | (with_reducible refine G.alloc ?_ _) | (with_reducible refine G.setCell ?_ (by first | (with_reducible exact Nat.le_refl _) | (simp; done) | (simp; omega) | omega) _) | (with_reducible refine G.trans ?_ (by assumption))))))).mono ?_
  rintro e w2 ⟨rfl, hG2⟩
  have gw2 : G w w2 := gw1.trans (G.trans (by (repeat' (first | (with_reducible exact G.refl _) | (with_reducible assumption) | (with_reducible refine G.drewN ?_ _) | (with_reducible refine G.drew ?_) | (with_reducible refine G.alloc ?_ _) | (with_reducible refine G.setCell ?_ (by first | (with_reducible exact Nat.le_refl _) | (simp; done) | (simp; omega) | omega) _) | (with_reducible refine G.trans ?_ (by assumption))))) hG2)
  clear gw1
  clear c0a c0b
  have g0x2 : G (w.alloc (.cells #[.int .i64 (a), .int .i64 (b)] 35)) w2 := g0x1.trans (G.trans (by (repeat' (first | (with_reducible exact G.refl _) | (with_reducible assumption) | (with_reducible refine G.drewN ?_ _) | (with_reducible refine G.drew ?_) | (with_reducible refine G.alloc ?_ _) | (with_reducible refine G.setCell ?_ (by first | (with_reducible exact Nat.le_refl _) | (simp; done) | (simp; omega) | omega) _) | (with_reducible refine G.trans ?_ (by assumption))))) hG2)
  clear g0x1
  have g1x2 : G ((w1.alloc (.cells #[.int .i64 (N), .int .i64 (O)] 23)).alloc (.cells #[.int .i64 (N), .int .i64 (O + 1)] 28)) w2 := G.trans (by (repeat' (first | (with_reducible exact G.refl _) | (with_reducible assumption) | (with_reducible refine G.drewN ?_ _) | (with_reducible refine G.drew ?_) | (with_reducible refine G.alloc ?_ _) | (with_reducible refine G.setCell ?_ (by first | (with_reducible exact Nat.le_refl _) | (simp; done) | (simp; omega) | omega) _) | (with_reducible refine G.trans ?_ (by assumption))))) hG2
  obtain ⟨c0a, c0b⟩ := box_later g0x2
  obtain ⟨c1a, c1b, c1c, c1d⟩ := pair_later g1x2
  go_wp2_with fail
  refine (Parse_txt N O s _ hN Hs (HT.out.later (by (repeat' (first | (with_reducible exact G.refl _) | (with_reducible assumption) | (with_reducible refine G.drewN ?_ _) | (with_reducible refine G.drew ?_) | (with_reducible refine G.alloc ?_ _) | (with_reducible refine G.setCell ?_ (by first | (with_reducible exact Nat.le_refl _) | (simp; done) | (simp; omega) | omega) _) | (with_reducible refine G.trans ?_ (by assumption))))))).mono ?_
  rintro e w3 ⟨rfl, hG3⟩
  have gw3 : G w w3 := gw2.trans (G.trans (by (repeat' (first | (with_reducible exact G.refl _) | (with_reducible assumption) | (with_reducible refine G.drewN ?_ _) | (with_reducible refine G.drew ?_) | (with_reducible refine G.alloc ?_ _) | (with_reducible refine G.setCell ?_ (by first | (with_reducible exact Nat.le_refl _) | (simp; done) | (simp; omega) | omega) _) | (with_reducible refine G.trans ?_ (by assumption))))) hG3)
  clear gw2
  clear c0a c0b c1a c1b c1c c1d
  have g0x3 : G (w.alloc (.cells #[.int .i64 (a), .int .i64 (b)] 35)) w3 := g0x2.trans (G.trans (by (repeat' (first | (with_reducible exact G.refl _) | (with_reducible assumption) | (with_reducible refine G.drewN ?_ _) | (with_reducible refine G.drew ?_) | (with_reducible refine G.alloc ?_ _) | (with_reducible refine G.setCell ?_ (by first | (with_reducible exact Nat.le_refl _) | (simp; done) | (simp; omega) | omega) _) | (with_reducible refine G.trans ?_ (by assumption))))) hG3)
  clear g0x2
  have g1x3 : G ((w1.alloc (.cells #[.int .i64 (N), .int .i64 (O)] 23)).alloc (.cells #[.int .i64 (N), .int .i64 (O + 1)] 28)) w3 := g1x2.trans (G.trans (by (repeat' (first | (with_reducible exact G.refl _) | (with_reducible assumption) | (with_reducible refine G.drewN ?_ _) | (with_reducible refine G.drew ?_) | (with_reducible refine G.alloc ?_ _) | (with_reducible refine G.setCell ?_ (by first | (with_reducible exact Nat.le_refl _) | (simp; done) | (simp; omega) | omega) _) | (with_reducible refine G.trans ?_ (by assumption))))) hG3)
  clear g1x2
  obtain ⟨c0a, c0b⟩ := box_later g0x3
  obtain ⟨c1a, c1b, c1c, c1d⟩ := pair_later g1x3
  go_wp2_with fail
  go_region_held3 (fun w' => w'.cell? ⟨w1.heap.size, 0, none⟩ = some (.int .i64 (N)) ∧ w'.cell? ⟨w1.heap.size, 1, none⟩ = some (.int .i64 (O)) ∧ w'.cell? ⟨w1.heap.size + 1, 0, none⟩ = some (.int .i64 (N)) ∧ w'.cell? ⟨w1.heap.size + 1, 1, none⟩ = some (.int .i64 (O + 1)) ∧ w'.cell? ⟨w3.heap.size, 0, none⟩ = some (.int .i64 (N)) ∧ w'.cell? ⟨w3.heap.size, 1, none⟩ = some (.int .i64 (O)))
    (first | (with_reducible assumption) | ((try dsimp only); (repeat' (with_reducible apply And.intro)) <;> go_simp))
    (first | (go_at_call 18; ((with_reducible refine (known_any _ (HT.out.later (by (repeat' (first | (with_reducible exact G.refl _) | (with_reducible assumption) | (with_reducible refine G.drewN ?_ _) | (with_reducible refine G.drew ?_) | (with_reducible refine G.alloc ?_ _) | (with_reducible refine G.setCell ?_ (by first | (with_reducible exact Nat.le_refl _) | (simp; done) | (simp; omega) | omega) _) | (with_reducible refine G.trans ?_ (by assumption))))))).mono ?_); rintro e v0 ⟨rfl, hV0⟩); obtain ⟨m01a, m01b, m01c, m01d⟩ := pair_later (g1x3.trans (G.trans (by (repeat' (first | (with_reducible exact G.refl _) | (with_reducible refine G.drewN ?_ _) | (with_reducible refine G.drew ?_) | (with_reducible refine G.alloc ?_ _)))) hV0)); obtain ⟨m02a, m02b⟩ := box_later (G.trans (by (repeat' (first | (with_reducible exact G.refl _) | (with_reducible refine G.drewN ?_ _) | (with_reducible refine G.drew ?_) | (with_reducible refine G.alloc ?_ _)))) hV0)) | (go_at_call 40; ((with_reducible refine (Text_is N O s _ hN Hs (HT.out.later (by (repeat' (first | (with_reducible exact G.refl _) | (with_reducible assumption) | (with_reducible refine G.drewN ?_ _) | (with_reducible refine G.drew ?_) | (with_reducible refine G.alloc ?_ _) | (with_reducible refine G.setCell ?_ (by first | (with_reducible exact Nat.le_refl _) | (simp; done) | (simp; omega) | omega) _) | (with_reducible refine G.trans ?_ (by assumption))))))).mono ?_); rintro e v1 ⟨rfl, hV1⟩); obtain ⟨m11a, m11b, m11c, m11d⟩ := pair_later (g1x3.trans (G.trans (G.trans (by (repeat' (first | (with_reducible exact G.refl _) | (with_reducible refine G.drewN ?_ _) | (with_reducible refine G.drew ?_) | (with_reducible refine G.alloc ?_ _)))) hV0) (G.trans (by (repeat' (first | (with_reducible exact G.refl _) | (with_reducible refine G.drewN ?_ _) | (with_reducible refine G.drew ?_) | (with_reducible refine G.alloc ?_ _)))) hV1))); obtain ⟨m12a, m12b⟩ := box_later (G.trans (G.trans (by (repeat' (first | (with_reducible exact G.refl _) | (with_reducible refine G.drewN ?_ _) | (with_reducible refine G.drew ?_) | (with_reducible refine G.alloc ?_ _)))) hV0) (G.trans (by (repeat' (first | (with_reducible exact G.refl _) | (with_reducible refine G.drewN ?_ _) | (with_reducible refine G.drew ?_) | (with_reducible refine G.alloc ?_ _)))) hV1))) | (go_at_call 41; ((with_reducible refine (rText_is N O s _ hN Hs).mono ?_); rintro e v2 ⟨rfl, hV2⟩); obtain ⟨m21a, m21b, m21c, m21d⟩ := pair_later (g1x3.trans (G.trans (G.trans (G.trans (by (repeat' (first | (with_reducible exact G.refl _) | (with_reducible refine G.drewN ?_ _) | (with_reducible refine G.drew ?_) | (with_reducible refine G.alloc ?_ _)))) hV0) (G.trans (by (repeat' (first | (with_reducible exact G.refl _) | (with_reducible refine G.drewN ?_ _) | (with_reducible refine G.drew ?_) | (with_reducible refine G.alloc ?_ _)))) hV1)) (G.trans (by (repeat' (first | (with_reducible exact G.refl _) | (with_reducible refine G.drewN ?_ _) | (with_reducible refine G.drew ?_) | (with_reducible refine G.alloc ?_ _)))) hV2))); obtain ⟨m22a, m22b⟩ := box_later (G.trans (G.trans (G.trans (by (repeat' (first | (with_reducible exact G.refl _) | (with_reducible refine G.drewN ?_ _) | (with_reducible refine G.drew ?_) | (with_reducible refine G.alloc ?_ _)))) hV0) (G.trans (by (repeat' (first | (with_reducible exact G.refl _) | (with_reducible refine G.drewN ?_ _) | (with_reducible refine G.drew ?_) | (with_reducible refine G.alloc ?_ _)))) hV1)) (G.trans (by (repeat' (first | (with_reducible exact G.refl _) | (with_reducible refine G.drewN ?_ _) | (with_reducible refine G.drew ?_) | (with_reducible refine G.alloc ?_ _)))) hV2))))
  go_wp2
  go_ret
  exact ⟨rfl, by (repeat' (first | (with_reducible exact G.refl _) | (with_reducible assumption) | (with_reducible refine G.drewN ?_ _) | (with_reducible refine G.drew ?_) | (with_reducible refine G.alloc ?_ _) | (with_reducible refine G.setCell ?_ (by first | (with_reducible exact Nat.le_refl _) | (simp; done) | (simp; omega) | omega) _) | (with_reducible refine G.trans ?_ (by assumption))))⟩

/-! ### the row and the card -/
open Go.ChangeShapes Go.WideShapes Go.ChangeAt Go.RowKit
set_option maxRecDepth 100000 in
theorem rationalTexts_lifted (os : Os) (started : os.Started) (H : Type) (enc : TypeId × Value → H) :
    ReturnsInHanded {} Tryd.checked os 10 .any (fun w args => (Rows.rationalTextsSpec.pre enc Tryd.prog Tryd.f10 [] false w args ∧ laidMetH Tryd.prog laidL w) ∧ sizedMet enc Tryd.prog Tryd.f10 (OpenSpec.ofChange Rows.rationalTextsSpec) false w args)
      (Rows.rationalTextsSpec.post enc Tryd.prog Tryd.f10 false true false false) := by
  refine returnsInHanded_of_change_and (C := Tryd.checked) (X := fun w _ => laidMetH Tryd.prog laidL w) (fun _ _ _ hh h => h.of_heap hh) own started (by kernel_rfl) Tryd.func10
    (ChangeSpec.witness_shaped (enc := enc) (C := Tryd.checked) (os := os) (X := fun w _ => laidMetH Tryd.prog laidL w) false (World.doorLaid Tryd.prog 29 os) #[.agg #[.int .i64 0, .int .i64 0]] 8 rfl (World.shaped_of_RefB (by kernel_rfl) (by kernel_rfl)) (by kernel_rfl) (by kernel_rfl) (by kernel_rfl) (door_met os _)) ?_
  intro W base args ds gs before hval0 hW _ _ hL _
  have hval : ∀ (j : Nat) t v, Tryd.f10.params[j]? = some t → args[j]? = some v → Value.okWide Tryd.prog W .any base t v := hval0
  have hW' := hW
  obtain ⟨p, q, hA0, hV, rfl, hfz, hnd⟩ := hW
  have hA : DataW.TrodAll enc Tryd.prog W 0 (fun _ => true) true Tryd.f10.params.toList args.toList ds p := hA0
  rw [Tryd.params10] at hA hval
  obtain ⟨v0, vs0, d0, ds0, p0, q0, hargs, rfl, rfl, h0, r0⟩ := trodAll_cons hA
  obtain ⟨rfl, rfl, rfl⟩ := trodAll_nil r0
  obtain rfl : args = #[v0] := by cases args; simp_all
  obtain ⟨rfl, rfl⟩ := trodVars_none hV
  obtain ⟨a0, b0, rfl, rfl, rfl, w0, u0⟩ := open_arr2 (hval 0 35 v0 rfl rfl) h0
  obtain ⟨bl0, bh0⟩ := bounds_i64 w0
  obtain ⟨cl0, ch0⟩ := bounds_i64 u0
  clear hA0 hval0
  simp only [List.append_nil] at hW'
  refine (texts_walk a0 b0 W bl0 bh0 cl0 ch0  (tab_of_laid hL)).mono fun e W' ⟨he, hg⟩ => ?_
  subst he
  exact ⟨_, rfl, _, _, _, [], [], [], hW', (trodAll_cons_mk (shut_bool Tryd.underlying4 _) trodAll_mk0), (trodAll_cons_mk (shut_arr2 w0 u0) trodAll_mk0), rfl, Below.frame hg _, fun h => by cases h⟩

theorem rationalTexts_holds : Rows.RationalTextsSaid :=
  OpenClaim.holds_of_wide 10 Tryd.f10 rfl rfl rfl rfl rfl rfl rfl ⟨rfl, rfl, rfl, rfl, rfl⟩ rfl rfl rfl rfl rfl (by kernel_rfl) Tryd.func10 (by kernel_rfl)
    (of_decide_eq_true (by kernel_rfl)) (by unfold Func.isWrapper; first | (rw [if_pos (by decide +kernel)]; kernel_rfl) | (rw [if_neg (by decide +kernel)]; exact ⟨rfl, rfl⟩))
    (fun os started H enc _ => rationalTexts_lifted os started H enc)

theorem rationalTexts_card : Rows.RationalTextsCardSaid :=
  Claim7.holds_tied_plain_at .later [] [.data, .data, .data] true (true, "a73df68f7bdbbf7be44568381a2183df4cb4db464f041c98de75f5391495dad9") false
    rationalTexts_holds (fun _ h => by cases h) (by kernel_rfl) (fun _ h => by cases h) rationalTexts_row_tie rfl ⟨rfl, rfl⟩ (by kernel_rfl) rfl
    (fun f fn hf hfn => by
      obtain rfl : f = 10 := Option.some.inj ((show Tryd.prog.funcNamed "hemiola/hemiolalaw01.RationalTexts" = some 10 by kernel_rfl).symm.trans hf) |>.symm
      obtain rfl : fn = Tryd.f10 := (Option.some.inj (Tryd.func10.symm.trans hfn)).symm
      exact ⟨by kernel_rfl, fun j t ht => by
        rw [Tryd.params10] at ht
        have hm : t ∈ [35] := by simpa using Array.mem_of_getElem? ht
        have hall : ([35].all fun u => !Tryd.prog.wantsStandIn u) = true := by kernel_rfl
        exact (show Tryd.prog.wantsStandIn t = false by simpa using List.all_eq_true.1 hall t hm)⟩)
    (by kernel_rfl)
#print axioms rationalTexts_card
end Go.Proofs.YtkmmmmbnddkcgaaDoor
