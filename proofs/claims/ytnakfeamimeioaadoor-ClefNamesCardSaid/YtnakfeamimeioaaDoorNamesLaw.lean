/- ClefNames: for every number and every text (cut to 30 bytes), Find, Name and Sign of clef answer as the reference's list of clefs says; the arguments read as before; the tables that the row lists are tied to the program text; no further condition. -/
import Derived.Test.YtnakfeamimeioaaDoorKnown
import Derived.Test.YtnakfeamimeioaaDoorLaid
import Derived.Test.YtnakfeamimeioaaDoorC8
import Derived.Test.YtnakfeamimeioaaDoorC9
import Derived.BigRegion
namespace Go.Proofs.YtnakfeamimeioaaDoor
open Go.RowKit Go.Maps Go.Lib
attribute [local go_sem] World.cell?_alloc_some

theorem fI_nm {c : Int} (h : Cf c) : fI (nm c).data.toList = c := by
  rcases cfs h with rfl | rfl | rfl | rfl | rfl | rfl | rfl | rfl | rfl <;> decide
theorem fI_inj {l m : List UInt8} (h : fI l = fI m) (h0 : fI l ≠ 0) : l = m := by
  have a0 := fI_0 l; have a1 := fI_1 l; have a2 := fI_2 l; have a3 := fI_3 l; have a4 := fI_4 l
  have a5 := fI_5 l; have a6 := fI_6 l; have a7 := fI_7 l; have a8 := fI_8 l
  have b0 := fI_0 m; have b1 := fI_1 m; have b2 := fI_2 m; have b3 := fI_3 m; have b4 := fI_4 m
  have b5 := fI_5 m; have b6 := fI_6 m; have b7 := fI_7 m; have b8 := fI_8 m
  have hb := fI_bd l
  have hc : fI l = 1 ∨ fI l = 2 ∨ fI l = 3 ∨ fI l = 4 ∨ fI l = 5 ∨ fI l = 6 ∨ fI l = 7 ∨ fI l = 8 ∨ fI l = 9 := by omega
  rcases hc with e | e | e | e | e | e | e | e | e
  · exact (a0.2 e).trans (b0.2 (h ▸ e)).symm
  · exact (a1.2 e).trans (b1.2 (h ▸ e)).symm
  · exact (a2.2 e).trans (b2.2 (h ▸ e)).symm
  · exact (a3.2 e).trans (b3.2 (h ▸ e)).symm
  · exact (a4.2 e).trans (b4.2 (h ▸ e)).symm
  · exact (a5.2 e).trans (b5.2 (h ▸ e)).symm
  · exact (a6.2 e).trans (b6.2 (h ▸ e)).symm
  · exact (a7.2 e).trans (b7.2 (h ▸ e)).symm
  · exact (a8.2 e).trans (b8.2 (h ▸ e)).symm
theorem nm_beq {c : Int} (h : Cf c) (L : ByteArray) : ((nm c).toList == L.toList) = decide (fI L.data.toList = c) := by
  rw [toList_data, toList_data]
  by_cases e : fI L.data.toList = c
  · rw [decide_eq_true e, fI_inj (l := (nm c).data.toList) (m := L.data.toList) ((fI_nm h).trans e.symm) (by rw [fI_nm h]; unfold Cf at h; omega)]
    simp
  · rw [decide_eq_false e]
    exact beq_false_of_ne (fun k => e (by rw [← k]; exact fI_nm h))

set_option maxRecDepth 100000 in
set_option maxHeartbeats 6400000 in
theorem names_walk (c : Int) (s : ByteArray) (w : World) (c0 : -9223372036854775808 ≤ c) (c1 : c ≤ 9223372036854775807) (_ : s.size ≤ maxLen) (hT : Tab w) :
    Calls Tryd.prog 11 #[.int .i64 c, .string s] w fun e w' => e = .returned (.bool true) ∧ G w w' := by
  have HT := Lib.hid hT
  have HCB := Lib.hid (And.intro c0 c1)
  clear hT c0 c1
  go_enter Tryd.func11, Tryd.ntmps11
  go_wp2_with fail
  refine (known_any _ (HT.out.later (by (repeat' (first | (with_reducible exact G.refl _) | (with_reducible assumption) | (with_reducible refine G.drewN ?_ _) | (with_reducible refine G.drew ?_) | (with_reducible refine G.alloc ?_ _) | (with_reducible refine G.setCell ?_ (by first | (with_reducible exact Nat.le_refl _) | (simp; done) | (simp; omega) | omega) _) | (with_reducible refine G.trans ?_ (by assumption))))))).mono ?_
  rintro e w1 ⟨rfl, hG1⟩
  go_wp2_with fail
  all_goals
    first | (obtain ⟨L, HL⟩ : ∃ L : ByteArray, Hid (L = s.extract 0 30) := ⟨_, rfl⟩; rw [← HL.out]; clear HL) | rename ByteArray => L
    obtain ⟨R, hR⟩ : ∃ z : Int, Hid (z = fI L.data.toList) := ⟨_, rfl⟩
    have RB := Lib.hid (show 0 ≤ R ∧ R ≤ 9 by rw [hR.out]; exact fI_bd _)
    refine (rClefs_any _).mono ?_
    rintro e w2 ⟨rfl, hC, hG2⟩
    have g2 : G w w2 := hG1.trans hG2
    generalize w1.heap.size = gb at *
    have HRC := Lib.hid hC
    clear hC
    go_wp2_with fail
    go_loopg [5, 7] 9 (fun k y x wr => ∃ (i : Nat) (W : Int), y = .int .i64 W ∧ x = .int .i64 i ∧ Hid (W = if R ≤ (i : Int) then R else 0) ∧ k = 9 - i ∧ i ≤ 9 ∧ G w2 wr)
    case atStart => exact ⟨0, 0, rfl, rfl, Lib.hid (by have := RB.out; split <;> omega), rfl, by omega, G.refl _⟩
    case round =>
      obtain ⟨i, W, rfl, rfl, hW, hg, hi, gr⟩ := hrel
      have HG := Lib.hid hg
      clear hg
      have hrb := RB.out
      by_cases h9 : i = 9
      · subst h9
        have hq : W = R := hW.out.trans (if_pos (by omega))
        clear hW
        subst hq
        go_wp2_with fail
        refine (cFind_any L _ (HT.out.later (by (repeat' (first | (with_reducible exact G.refl _) | (with_reducible assumption) | (with_reducible refine G.drewN ?_ _) | (with_reducible refine G.drew ?_) | (with_reducible refine G.alloc ?_ _) | (with_reducible refine G.setCell ?_ (by first | (with_reducible exact Nat.le_refl _) | (simp; done) | (simp; omega) | omega) _) | (with_reducible refine G.trans ?_ (by assumption)))))).dsn).mono ?_
        rintro e w3 ⟨rfl, hG3⟩
        rw [← hR.out]
        obtain ⟨S, hS⟩ : ∃ z : Int, Hid (z = if W = 0 then 8 else 0) := ⟨_, rfl⟩
        rw [← hS.out]
        have gw3 : G w w3 := (g2.trans gr).trans hG3
        have gr3 : G w2 w3 := gr.trans hG3
        have hWS : (W = 0 ∧ S = 8) ∨ (W ≠ 0 ∧ 0 < W ∧ S = 0) := by
          have := hS.out
          by_cases h : W = 0
          · exact .inl ⟨h, by rw [this, if_pos h]⟩
          · exact .inr ⟨h, by omega, by rw [this, if_neg h]⟩
        clear hG3 gr g2 hS hR hrb RB HG
        rcases hWS with ⟨rfl, rfl⟩ | ⟨h0, hp, rfl⟩
        all_goals
          go_wp2_with fail
          try go_big_region
          by_cases hc : Cf c
          · have HC := Lib.hid hc
            obtain ⟨d0, d1⟩ := hc
            have q4 := IntWalk.i64_in (c - 1) (by omega)
            have b1 : 0 ≤ c - 1 := by omega
            have b2 : c - 1 < 9 := by omega
            go_wp2_with fail
            refine (cName_ok c _ HC.out (HT.out.later gw3)).mono ?_
            rintro e w4 ⟨rfl, hG4⟩
            go_wp2_with fail
            refine (cSign_ok c _ HC.out (HT.out.later (gw3.trans hG4))).mono ?_
            rintro e w5 ⟨rfl, hG5⟩
            have gw5 := (gw3.trans hG4).trans hG5
            go_wp2_with fail
            refine (rValid_any c _).mono ?_
            rintro e w6 ⟨rfl, rfl⟩
            rw [decide_eq_true HC.out]
            go_wp2_with fail
            refine (cFind_any (nm c) _ (HT.out.later gw5).dsn).mono ?_
            rintro e w6 ⟨rfl, hG6⟩
            rw [fI_nm HC.out, if_neg (show ¬ c = 0 by omega)]
            have gw6 := gw5.trans hG6
            obtain ⟨x0, x1, x2, x3, x4, x5, x6⟩ := (HRC.out.later ((gr3.trans hG4).trans (hG5.trans hG6))) c HC.out
            have gWB : G w (w6.alloc (.cells #[.string (nm c), .int .u8 (lt c), .int .i64 (li c), .int .i64 (oc c), .int .i64 (mid c), .int .i64 (shp c), .int .i64 (flt c)] 55)) := gw6.alloc _
            obtain ⟨z0, z1, z2, z3, z4, z5, z6⟩ := sev_later (G.refl (w6.alloc (.cells #[.string (nm c), .int .u8 (lt c), .int .i64 (li c), .int .i64 (oc c), .int .i64 (mid c), .int .i64 (shp c), .int .i64 (flt c)] 55)))
            have hbb : ((nm c).toList == (nm c).toList) = true := by simp
            go_wp2_with fail
            go_ret
            exact ⟨by first | rfl | simp, by first | exact gWB | (repeat' (first | (with_reducible exact G.refl _) | (with_reducible assumption) | (with_reducible refine G.drewN ?_ _) | (with_reducible refine G.drew ?_) | (with_reducible refine G.alloc ?_ _) | (with_reducible refine G.setCell ?_ (by first | (with_reducible exact Nat.le_refl _) | (simp; done) | (simp; omega) | omega) _) | (with_reducible refine G.trans ?_ (by assumption))))⟩
          · have HC := Lib.hid hc
            clear hc
            go_wp2_with fail
            refine (cName_bad c _ HC.out).mono ?_
            rintro e w4 ⟨rfl, hG4⟩
            go_wp2_with fail
            refine (cSign_bad c _ HC.out).mono ?_
            rintro e w5 ⟨rfl, hG5⟩
            go_wp2_with fail
            refine (rValid_any c _).mono ?_
            rintro e w6 ⟨rfl, rfl⟩
            rw [decide_eq_false HC.out]
            go_wp2_with fail
            go_ret
            exact ⟨by first | rfl | simp, by (repeat' (first | (with_reducible exact G.refl _) | (with_reducible assumption) | (with_reducible refine G.drewN ?_ _) | (with_reducible refine G.drew ?_) | (with_reducible refine G.alloc ?_ _) | (with_reducible refine G.setCell ?_ (by first | (with_reducible exact Nat.le_refl _) | (simp; done) | (simp; omega) | omega) _) | (with_reducible refine G.trans ?_ (by assumption))))⟩
      · have hcf : Cf ((i : Int) + 1) := ⟨by omega, by omega⟩
        obtain ⟨x0, _, _, _, _, _, _⟩ := (HRC.out.later gr) _ hcf
        rw [show ((i : Int) + 1).toNat - 1 = i by omega] at x0
        have hb := nm_beq hcf L
        rw [← hR.out] at hb
        have q1 := IntWalk.i64_in ((i : Int) + 1) (by omega)
        have b1 : (0 : Int) ≤ (i : Int) := by omega
        have b2 : (i : Int) < 9 := by omega
        by_cases hm : R = (i : Int) + 1
        · rw [decide_eq_true hm] at hb
          have HM := Lib.hid hm
          clear hm hrb
          go_wp2_with fail
          go_roundg (9 - (i + 1))
          case measure => have := HG.out; omega
          case rel => exact ⟨i + 1, (i : Int) + 1, rfl, by first | rfl | simp, Lib.hid (by have := HM.out; rw [if_pos (by omega), this]), rfl, by omega, by (repeat' (first | (with_reducible exact G.refl _) | (with_reducible assumption) | (with_reducible refine G.drewN ?_ _) | (with_reducible refine G.drew ?_) | (with_reducible refine G.alloc ?_ _) | (with_reducible refine G.setCell ?_ (by first | (with_reducible exact Nat.le_refl _) | (simp; done) | (simp; omega) | omega) _) | (with_reducible refine G.trans ?_ (by assumption))))⟩
        · rw [decide_eq_false hm] at hb
          have HM := Lib.hid hm
          clear hm hrb
          go_wp2_with fail
          go_roundg (9 - (i + 1))
          case measure => have := HG.out; omega
          case rel => exact ⟨i + 1, W, rfl, by first | rfl | simp, Lib.hid (by have := HM.out; rw [hW.out]; by_cases h : R ≤ (i : Int); rw [if_pos h, if_pos (by omega)]; rw [if_neg h, if_neg (by omega)]), rfl, by omega, by (repeat' (first | (with_reducible exact G.refl _) | (with_reducible assumption) | (with_reducible refine G.drewN ?_ _) | (with_reducible refine G.drew ?_) | (with_reducible refine G.alloc ?_ _) | (with_reducible refine G.setCell ?_ (by first | (with_reducible exact Nat.le_refl _) | (simp; done) | (simp; omega) | omega) _) | (with_reducible refine G.trans ?_ (by assumption))))⟩


/-! ### the row and the card -/
open Go.ChangeShapes Go.WideShapes Go.ChangeAt Go.RowKit
set_option maxRecDepth 100000 in
theorem clefNames_lifted (os : Os) (started : os.Started) (H : Type) (enc : TypeId × Value → H) :
    ReturnsInHanded {} Tryd.checked os 11 .any (fun w args => (Rows.clefNamesSpec.pre enc Tryd.prog Tryd.f11 [] false w args ∧ laidMetH Tryd.prog laidL w) ∧ sizedMet enc Tryd.prog Tryd.f11 (OpenSpec.ofChange Rows.clefNamesSpec) false w args)
      (Rows.clefNamesSpec.post enc Tryd.prog Tryd.f11 false true false false) := by
  refine returnsInHanded_of_change_and (C := Tryd.checked) (X := fun w _ => laidMetH Tryd.prog laidL w) (fun _ _ _ hh h => h.of_heap hh) own started (by kernel_rfl) Tryd.func11
    (ChangeSpec.witness_shaped (enc := enc) (C := Tryd.checked) (os := os) (X := fun w _ => laidMetH Tryd.prog laidL w) false (World.laidAll Tryd.prog os laidL) #[.int .i64 0, .string .empty] 8 (World.laidAll_os _ _ _) (shapedL os) (by kernel_rfl) (by kernel_rfl) (by kernel_rfl) (laid_met os _)) ?_
  intro W base args ds gs before hval0 hW _ _ hL _
  have hval : ∀ (j : Nat) t v, Tryd.f11.params[j]? = some t → args[j]? = some v → Value.okWide Tryd.prog W .any base t v := hval0
  have hW' := hW
  obtain ⟨p, q, hA0, hV, rfl, hfz, hnd⟩ := hW
  have hA : DataW.TrodAll enc Tryd.prog W 0 (fun _ => true) true Tryd.f11.params.toList args.toList ds p := hA0
  rw [Tryd.params11] at hA hval
  obtain ⟨v0, vs0, d0, ds0, p0, q0, hargs, rfl, rfl, h0, r0⟩ := trodAll_cons hA
  obtain ⟨v1, vs1, d1, ds1, p1, q1, rfl, rfl, rfl, h1, r1⟩ := trodAll_cons r0
  obtain ⟨rfl, rfl, rfl⟩ := trodAll_nil r1
  obtain rfl : args = #[v0, v1] := by cases args; simp_all
  obtain ⟨rfl, rfl⟩ := trodVars_none hV
  obtain ⟨a0, rfl, rfl, rfl, w0⟩ := open_int Tryd.underlying3 (hval 0 3 v0 rfl rfl) h0
  obtain ⟨bl0, bh0⟩ := bounds_i64 w0
  obtain ⟨s1, rfl, rfl, rfl, hs1⟩ := ChangeMaps.open_string Tryd.underlying9 (hval 1 9 v1 rfl rfl) h1
  clear hA0 hval0
  simp only [List.append_nil] at hW'
  refine (names_walk a0 s1 W bl0 bh0 hs1  (tab_of_laid hL)).mono fun e W' ⟨he, hg⟩ => ?_
  subst he
  exact ⟨_, rfl, _, _, _, [], [], [], hW', (trodAll_cons_mk (shut_bool Tryd.underlying4 _) trodAll_mk0), (trodAll_cons_mk (shut_int Tryd.underlying3 w0) (trodAll_cons_mk (ChangeMaps.shut_string Tryd.underlying9 hs1) trodAll_mk0)), rfl, Below.frame hg _, fun h => by cases h⟩

theorem clefNames_holds : Rows.ClefNamesSaid :=
  OpenClaim.holds_of_wide 11 Tryd.f11 rfl rfl rfl rfl rfl rfl rfl ⟨rfl, rfl, rfl, rfl, rfl⟩ rfl rfl rfl rfl rfl (by kernel_rfl) Tryd.func11 (by kernel_rfl)
    (of_decide_eq_true (by kernel_rfl)) (by unfold Func.isWrapper; first | (rw [if_pos (by decide +kernel)]; kernel_rfl) | (rw [if_neg (by decide +kernel)]; exact ⟨rfl, rfl⟩))
    (fun os started H enc _ => clefNames_lifted os started H enc)

theorem clefNames_card : Rows.ClefNamesCardSaid :=
  Claim7.holds_tied_plain_at .later [] [.data, .data, .data] true (true, "ae3d3630bcff25fd33e59354a4ec782dc285709024c716b55dd2ba349c01efa0") false
    clefNames_holds (fun _ h => by cases h) (by kernel_rfl) (fun _ h => by cases h) clefNames_row_tie rfl ⟨rfl, rfl⟩ (by kernel_rfl) rfl
    (fun f fn hf hfn => by
      obtain rfl : f = 11 := Option.some.inj ((show Tryd.prog.funcNamed "hemiola/hemiolalaw08.ClefNames" = some 11 by kernel_rfl).symm.trans hf) |>.symm
      obtain rfl : fn = Tryd.f11 := (Option.some.inj (Tryd.func11.symm.trans hfn)).symm
      exact ⟨by kernel_rfl, fun j t ht => by
        rw [Tryd.params11] at ht
        have hm : t ∈ [3, 9] := by simpa using Array.mem_of_getElem? ht
        have hall : ([3, 9].all fun u => !Tryd.prog.wantsStandIn u) = true := by kernel_rfl
        exact (show Tryd.prog.wantsStandIn t = false by simpa using List.all_eq_true.1 hall t hm)⟩)
    (by kernel_rfl)
#print axioms clefNames_card
end Go.Proofs.YtnakfeamimeioaaDoor
