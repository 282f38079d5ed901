/- RationalParses: for every text, cut to 60 bytes, Parse returns the fraction, the offset and the error of the reference; the tables that the row lists are tied to the program text; no further condition. -/
import Derived.Test.YtkmmmmbnddkcgaaDoorArr
import Derived.Test.YtkmmmmbnddkcgaaDoorRefParse2
import Derived.ChangeMaps5
import Derived.Deep.RegionHeld3
import Derived.Deep.DeepCutAuto
namespace Go.Proofs.YtkmmmmbnddkcgaaDoor
open Go.RowKit QM QB QP
attribute [local go_sem] World.cell?_alloc_some

theorem parse_cases (l : List UInt8) : ∃ (N O : Int) (t e : Nat), parseOut l = (N, O, t, e) ∧ ((e : Int) = 0 ∨ (N = 0 ∧ O = 0 ∧ ((e : Int) == 0) = false)) ∧ 0 ≤ O ∧ O ≤ 1073741823 := by
  by_cases c : (quot l).2.2.2 ≠ 0
  · exact ⟨0, 0, (quot l).2.2.1, (quot l).2.2.2, by unfold parseOut; rw [if_pos c], .inr ⟨rfl, rfl, by simp; omega⟩, by omega, by omega⟩
  · by_cases c2 : oE (quot l).1 (quot l).2.1 ≠ 0 ∨ txt (oN (quot l).1 (quot l).2.1) (oD (quot l).1 (quot l).2.1 - 1) ≠ l
    · exact ⟨0, 0, 0, 3, by unfold parseOut; rw [if_neg c, if_pos c2], .inr ⟨rfl, rfl, by simp⟩, by omega, by omega⟩
    · have h := cn_of (quot l).1 (quot l).2.1
      exact ⟨_, _, 0, 0, by unfold parseOut; rw [if_neg c, if_neg c2], .inl rfl, h.o1, h.o2⟩
theorem Parse_as (L : ByteArray) (N O : Int) (t e0 : Nat) (w : World) (hp : Hid (parseOut L.data.toList = (N, O, t, e0))) (h : L.size ≤ 1000000) (hT : Tab w) :
    Calls Tryd.prog 39 #[.string L] w fun e w' => e = .returned (.tuple #[.agg #[.int .i64 N, .int .i64 O], .int .i64 (t : Nat), .int .i64 (e0 : Nat)]) ∧ G w w' := by
  refine (Parse_any L w h hT).mono ?_
  rintro e1 w1 ⟨p, hG⟩
  unfold ParseIs at p
  rw [hp.out] at p
  exact ⟨p, hG⟩
theorem rParse_as (L : ByteArray) (N O : Int) (t e0 : Nat) (w : World) (hp : Hid (parseOut L.data.toList = (N, O, t, e0))) (h : L.size ≤ 1000000) :
    Calls Tryd.prog 42 #[.string L] w fun e w' => e = .returned (.tuple #[.agg #[.int .i64 N, .int .i64 (O + 1)], .int .i64 (t : Nat), .int .i64 (e0 : Nat)]) ∧ G w w' := by
  refine (rParse_any L w h).mono ?_
  rintro e1 w1 ⟨p, hG⟩
  unfold RParseIs at p
  rw [hp.out] at p
  exact ⟨p, hG⟩

set_option maxRecDepth 100000 in
set_option maxHeartbeats 3200000 in
theorem parses_walk (s : ByteArray) (w : World) (_ : s.size ≤ maxLen) (hT : Tab w) :
    Calls Tryd.prog 11 #[.string s] w fun e w' => e = .returned (.bool true) ∧ G w w' := by
  have HT := Lib.hid hT
  clear hT
  go_enter Tryd.func11, Tryd.ntmps11
  go_wp2_with fail
  obtain ⟨L, HL⟩ : ∃ L : ByteArray, Hid (L = s.extract 0 (min (s.size : Int) 60).toNat) := ⟨_, rfl⟩
  rw [← HL.out]
  have hL : L.size ≤ 1000000 := by rw [HL.out, ByteArray.size_extract]; omega
  obtain ⟨N, O, t, e0, hp, hc, o1, o2⟩ := parse_cases L.data.toList
  have HP := Lib.hid hp
  have HC := Lib.hid hc
  clear hp hc
  refine (Parse_as L N O t e0 _ HP hL (HT.out.later (by (repeat' (first | (with_reducible exact G.refl _) | (with_reducible assumption) | (with_reducible refine G.drewN ?_ _) | (with_reducible refine G.drew ?_) | (with_reducible refine G.alloc ?_ _) | (with_reducible refine G.setCell ?_ (by first | (with_reducible exact Nat.le_refl _) | (simp; done) | (simp; omega) | omega) _) | (with_reducible refine G.trans ?_ (by assumption))))))).mono ?_
  rintro e w1 ⟨rfl, hG1⟩
  have gw1 : G w w1 := G.trans (by (repeat' (first | (with_reducible exact G.refl _) | (with_reducible assumption) | (with_reducible refine G.drewN ?_ _) | (with_reducible refine G.drew ?_) | (with_reducible refine G.alloc ?_ _) | (with_reducible refine G.setCell ?_ (by first | (with_reducible exact Nat.le_refl _) | (simp; done) | (simp; omega) | omega) _) | (with_reducible refine G.trans ?_ (by assumption))))) hG1
  try rw [← HL.out]
  go_wp2_with fail
  refine (rParse_as L N O t e0 _ HP hL).mono ?_
  rintro e w2 ⟨rfl, hG2⟩
  have gw2 : G w w2 := gw1.trans (G.trans (by (repeat' (first | (with_reducible exact G.refl _) | (with_reducible assumption) | (with_reducible refine G.drewN ?_ _) | (with_reducible refine G.drew ?_) | (with_reducible refine G.alloc ?_ _) | (with_reducible refine G.setCell ?_ (by first | (with_reducible exact Nat.le_refl _) | (simp; done) | (simp; omega) | omega) _) | (with_reducible refine G.trans ?_ (by assumption))))) hG2)
  clear gw1
  have g0x2 : G (w1.alloc (.cells #[.int .i64 (N), .int .i64 (O)] 23)) w2 := G.trans (by (repeat' (first | (with_reducible exact G.refl _) | (with_reducible assumption) | (with_reducible refine G.drewN ?_ _) | (with_reducible refine G.drew ?_) | (with_reducible refine G.alloc ?_ _) | (with_reducible refine G.setCell ?_ (by first | (with_reducible exact Nat.le_refl _) | (simp; done) | (simp; omega) | omega) _) | (with_reducible refine G.trans ?_ (by assumption))))) hG2
  obtain ⟨c0a, c0b⟩ := box_later g0x2
  go_wp2_with fail
  refine (known_any _ (HT.out.later (by (repeat' (first | (with_reducible exact G.refl _) | (with_reducible assumption) | (with_reducible refine G.drewN ?_ _) | (with_reducible refine G.drew ?_) | (with_reducible refine G.alloc ?_ _) | (with_reducible refine G.setCell ?_ (by first | (with_reducible exact Nat.le_refl _) | (simp; done) | (simp; omega) | omega) _) | (with_reducible refine G.trans ?_ (by assumption))))))).mono ?_
  rintro e w3 ⟨rfl, hG3⟩
  have gw3 : G w w3 := gw2.trans (G.trans (by (repeat' (first | (with_reducible exact G.refl _) | (with_reducible assumption) | (with_reducible refine G.drewN ?_ _) | (with_reducible refine G.drew ?_) | (with_reducible refine G.alloc ?_ _) | (with_reducible refine G.setCell ?_ (by first | (with_reducible exact Nat.le_refl _) | (simp; done) | (simp; omega) | omega) _) | (with_reducible refine G.trans ?_ (by assumption))))) hG3)
  clear gw2
  clear c0a c0b
  have g0x3 : G (w1.alloc (.cells #[.int .i64 (N), .int .i64 (O)] 23)) w3 := g0x2.trans (G.trans (by (repeat' (first | (with_reducible exact G.refl _) | (with_reducible assumption) | (with_reducible refine G.drewN ?_ _) | (with_reducible refine G.drew ?_) | (with_reducible refine G.alloc ?_ _) | (with_reducible refine G.setCell ?_ (by first | (with_reducible exact Nat.le_refl _) | (simp; done) | (simp; omega) | omega) _) | (with_reducible refine G.trans ?_ (by assumption))))) hG3)
  clear g0x2
  have g1x3 : G (w2.alloc (.cells #[.int .i64 (N), .int .i64 (O + 1)] 28)) w3 := G.trans (by (repeat' (first | (with_reducible exact G.refl _) | (with_reducible assumption) | (with_reducible refine G.drewN ?_ _) | (with_reducible refine G.drew ?_) | (with_reducible refine G.alloc ?_ _) | (with_reducible refine G.setCell ?_ (by first | (with_reducible exact Nat.le_refl _) | (simp; done) | (simp; omega) | omega) _) | (with_reducible refine G.trans ?_ (by assumption))))) hG3
  obtain ⟨c0a, c0b⟩ := box_later g0x3
  obtain ⟨c1a, c1b⟩ := box_later g1x3
  go_wp2_with fail
  refine (same_any N O (e0 : Int) _ HC.out o1 o2).mono ?_
  rintro e w4 ⟨rfl, hG4⟩
  have gw4 : G w w4 := gw3.trans (G.trans (by (repeat' (first | (with_reducible exact G.refl _) | (with_reducible assumption) | (with_reducible refine G.drewN ?_ _) | (with_reducible refine G.drew ?_) | (with_reducible refine G.alloc ?_ _) | (with_reducible refine G.setCell ?_ (by first | (with_reducible exact Nat.le_refl _) | (simp; done) | (simp; omega) | omega) _) | (with_reducible refine G.trans ?_ (by assumption))))) hG4)
  clear gw3
  clear c0a c0b c1a c1b
  have g0x4 : G (w1.alloc (.cells #[.int .i64 (N), .int .i64 (O)] 23)) w4 := g0x3.trans (G.trans (by (repeat' (first | (with_reducible exact G.refl _) | (with_reducible assumption) | (with_reducible refine G.drewN ?_ _) | (with_reducible refine G.drew ?_) | (with_reducible refine G.alloc ?_ _) | (with_reducible refine G.setCell ?_ (by first | (with_reducible exact Nat.le_refl _) | (simp; done) | (simp; omega) | omega) _) | (with_reducible refine G.trans ?_ (by assumption))))) hG4)
  clear g0x3
  have g1x4 : G (w2.alloc (.cells #[.int .i64 (N), .int .i64 (O + 1)] 28)) w4 := g1x3.trans (G.trans (by (repeat' (first | (with_reducible exact G.refl _) | (with_reducible assumption) | (with_reducible refine G.drewN ?_ _) | (with_reducible refine G.drew ?_) | (with_reducible refine G.alloc ?_ _) | (with_reducible refine G.setCell ?_ (by first | (with_reducible exact Nat.le_refl _) | (simp; done) | (simp; omega) | omega) _) | (with_reducible refine G.trans ?_ (by assumption))))) hG4)
  clear g1x3
  obtain ⟨c0a, c0b⟩ := box_later g0x4
  obtain ⟨c1a, c1b⟩ := box_later g1x4
  go_wp2
  go_ret
  exact ⟨rfl, by (repeat' (first | (with_reducible exact G.refl _) | (with_reducible assumption) | (with_reducible refine G.drewN ?_ _) | (with_reducible refine G.drew ?_) | (with_reducible refine G.alloc ?_ _) | (with_reducible refine G.setCell ?_ (by first | (with_reducible exact Nat.le_refl _) | (simp; done) | (simp; omega) | omega) _) | (with_reducible refine G.trans ?_ (by assumption))))⟩

/-! ### the row and the card -/
open Go.ChangeShapes Go.WideShapes Go.ChangeAt Go.RowKit
set_option maxRecDepth 100000 in
theorem rationalParses_lifted (os : Os) (started : os.Started) (H : Type) (enc : TypeId × Value → H) :
    ReturnsInHanded {} Tryd.checked os 11 .any (fun w args => (Rows.rationalParsesSpec.pre enc Tryd.prog Tryd.f11 [] false w args ∧ laidMetH Tryd.prog laidL w) ∧ sizedMet enc Tryd.prog Tryd.f11 (OpenSpec.ofChange Rows.rationalParsesSpec) false w args)
      (Rows.rationalParsesSpec.post enc Tryd.prog Tryd.f11 false true false false) := by
  refine returnsInHanded_of_change_and (C := Tryd.checked) (X := fun w _ => laidMetH Tryd.prog laidL w) (fun _ _ _ hh h => h.of_heap hh) own started (by kernel_rfl) Tryd.func11
    (ChangeSpec.witness_shaped (enc := enc) (C := Tryd.checked) (os := os) (X := fun w _ => laidMetH Tryd.prog laidL w) false (World.doorLaid Tryd.prog 29 os) #[.string .empty] 8 rfl (World.shaped_of_RefB (by kernel_rfl) (by kernel_rfl)) (by kernel_rfl) (by kernel_rfl) (by kernel_rfl) (door_met os _)) ?_
  intro W base args ds gs before hval0 hW _ _ hL _
  have hval : ∀ (j : Nat) t v, Tryd.f11.params[j]? = some t → args[j]? = some v → Value.okWide Tryd.prog W .any base t v := hval0
  have hW' := hW
  obtain ⟨p, q, hA0, hV, rfl, hfz, hnd⟩ := hW
  have hA : DataW.TrodAll enc Tryd.prog W 0 (fun _ => true) true Tryd.f11.params.toList args.toList ds p := hA0
  rw [Tryd.params11] at hA hval
  obtain ⟨v0, vs0, d0, ds0, p0, q0, hargs, rfl, rfl, h0, r0⟩ := trodAll_cons hA
  obtain ⟨rfl, rfl, rfl⟩ := trodAll_nil r0
  obtain rfl : args = #[v0] := by cases args; simp_all
  obtain ⟨rfl, rfl⟩ := trodVars_none hV
  obtain ⟨s0, rfl, rfl, rfl, hs0⟩ := ChangeMaps.open_string Tryd.underlying9 (hval 0 9 v0 rfl rfl) h0
  clear hA0 hval0
  simp only [List.append_nil] at hW'
  refine (parses_walk s0 W hs0  (tab_of_laid hL)).mono fun e W' ⟨he, hg⟩ => ?_
  subst he
  exact ⟨_, rfl, _, _, _, [], [], [], hW', (trodAll_cons_mk (shut_bool Tryd.underlying4 _) trodAll_mk0), (trodAll_cons_mk (ChangeMaps.shut_string Tryd.underlying9 hs0) trodAll_mk0), rfl, Below.frame hg _, fun h => by cases h⟩

theorem rationalParses_holds : Rows.RationalParsesSaid :=
  OpenClaim.holds_of_wide 11 Tryd.f11 rfl rfl rfl rfl rfl rfl rfl ⟨rfl, rfl, rfl, rfl, rfl⟩ rfl rfl rfl rfl rfl (by kernel_rfl) Tryd.func11 (by kernel_rfl)
    (of_decide_eq_true (by kernel_rfl)) (by unfold Func.isWrapper; first | (rw [if_pos (by decide +kernel)]; kernel_rfl) | (rw [if_neg (by decide +kernel)]; exact ⟨rfl, rfl⟩))
    (fun os started H enc _ => rationalParses_lifted os started H enc)

theorem rationalParses_card : Rows.RationalParsesCardSaid :=
  Claim7.holds_tied_plain_at .later [] [.data, .data, .data] true (true, "a73df68f7bdbbf7be44568381a2183df4cb4db464f041c98de75f5391495dad9") false
    rationalParses_holds (fun _ h => by cases h) (by kernel_rfl) (fun _ h => by cases h) rationalParses_row_tie rfl ⟨rfl, rfl⟩ (by kernel_rfl) rfl
    (fun f fn hf hfn => by
      obtain rfl : f = 11 := Option.some.inj ((show Tryd.prog.funcNamed "hemiola/hemiolalaw01.RationalParses" = some 11 by kernel_rfl).symm.trans hf) |>.symm
      obtain rfl : fn = Tryd.f11 := (Option.some.inj (Tryd.func11.symm.trans hfn)).symm
      exact ⟨by kernel_rfl, fun j t ht => by
        rw [Tryd.params11] at ht
        have hm : t ∈ [9] := by simpa using Array.mem_of_getElem? ht
        have hall : ([9].all fun u => !Tryd.prog.wantsStandIn u) = true := by kernel_rfl
        exact (show Tryd.prog.wantsStandIn t = false by simpa using List.all_eq_true.1 hall t hm)⟩)
    (by kernel_rfl)
#print axioms rationalParses_card
end Go.Proofs.YtkmmmmbnddkcgaaDoor
