/- AccidentalCarries: for any key signature and any list of up to 30 notes, Carry returns the alterations in force after them, or the error of Display; the arguments read as before; the table that the row lists is tied to the program text; no further condition. -/
import Derived.Test.YtghlecocnflbnaaDoorKnown
import Derived.Test.YtghlecocnflbnaaDoorLaid
import Derived.Test.YtghlecocnflbnaaDoorA7
import Derived.Test.YtghlecocnflbnaaDoorA8
import Derived.Test.YtghlecocnflbnaaDoorR3
import Derived.Test.YtghlecocnflbnaaDoorR5
namespace Go.Proofs.YtghlecocnflbnaaDoor
open Go.RowKit Go.ChangeShapes Go.WideShapes
attribute [local go_sem] World.cell?_alloc_some

set_option maxRecDepth 100000 in
set_option maxHeartbeats 12800000 in
theorem carr_walk (f : Int) (a : Option Addr) (l : List Nt) (c : Nat) (w : World) (_ : -9223372036854775808 ≤ f) (_ : f ≤ 9223372036854775807) (_ : l.length ≤ c) (_ : c ≤ maxLen) (h1 : NtsAt w a l) (_ : a = none → c = 0) (hT : Tab w) :
    Calls Tryd.prog 9 #[.int .i64 f, .slice a l.length c] w fun e w' => e = .returned (.bool true) ∧ G w w' := by
  have HT := Lib.hid hT
  have H1 := Lib.hid h1
  clear hT h1
  obtain ⟨n, hn⟩ : ∃ z : Nat, Hid (l.length = z) := ⟨_, rfl⟩
  rw [hn.out]
  by_cases h30 : 30 < (n : Int)
  · go_enter Tryd.func9, Tryd.ntmps9
    go_wp2_with fail
    refine (known_any _ (HT.out.later (by (repeat' (first | (with_reducible exact G.refl _) | (with_reducible assumption) | (with_reducible refine G.drewN ?_ _) | (with_reducible refine G.drew ?_) | (with_reducible refine G.alloc ?_ _) | (with_reducible refine G.setCell ?_ (by first | (with_reducible exact Nat.le_refl _) | (simp; done) | (simp; omega) | omega) _) | (with_reducible refine G.trans ?_ (by assumption))))))).mono ?_
    rintro e w1 ⟨rfl, hG1⟩
    have g1 : G w w1 := by (repeat' (first | (with_reducible exact G.refl _) | (with_reducible assumption) | (with_reducible refine G.drewN ?_ _) | (with_reducible refine G.drew ?_) | (with_reducible refine G.alloc ?_ _) | (with_reducible refine G.setCell ?_ (by first | (with_reducible exact Nat.le_refl _) | (simp; done) | (simp; omega) | omega) _) | (with_reducible refine G.trans ?_ (by assumption))))
    go_wp2_with fail
    refine (known_any _ (HT.out.later g1)).mono ?_
    rintro e w2 ⟨rfl, hG2⟩
    go_wp2_with fail
    go_ret
    exact ⟨by first | rfl | simp, g1.trans hG2⟩
  have hn2 : n ≤ 30 := by omega
  go_enter Tryd.func9, Tryd.ntmps9
  go_wp2_with fail
  refine (known_any _ (HT.out.later (by (repeat' (first | (with_reducible exact G.refl _) | (with_reducible assumption) | (with_reducible refine G.drewN ?_ _) | (with_reducible refine G.drew ?_) | (with_reducible refine G.alloc ?_ _) | (with_reducible refine G.setCell ?_ (by first | (with_reducible exact Nat.le_refl _) | (simp; done) | (simp; omega) | omega) _) | (with_reducible refine G.trans ?_ (by assumption))))))).mono ?_
  rintro e w1 ⟨rfl, hG1⟩
  have g1 : G w w1 := by (repeat' (first | (with_reducible exact G.refl _) | (with_reducible assumption) | (with_reducible refine G.drewN ?_ _) | (with_reducible refine G.drew ?_) | (with_reducible refine G.alloc ?_ _) | (with_reducible refine G.setCell ?_ (by first | (with_reducible exact Nat.le_refl _) | (simp; done) | (simp; omega) | omega) _) | (with_reducible refine G.trans ?_ (by assumption))))
  go_wp2_with fail
  refine (own_any a l n c _ hn.out (by omega) (H1.out.later g1)).mono ?_
  rintro e w2 ⟨v, rfl, hR, hG2⟩
  have g2 : G w w2 := g1.trans hG2
  obtain ⟨a2, c2, rfl, hN2⟩ := hR.nts
  rw [hn.out]
  have HN2 := Lib.hid hN2
  clear hR hN2
  go_wp2_with fail

  by_cases hE : ckA f l = 0
  · have HE := Lib.hid hE
    have HK := Lib.hid (ckA_ok hE)
    clear hE
    refine (Carry_ok f a2 l n c2 _ hn.out HN2.out (HT.out.later g2) HE.out).mono ?_
    rintro e w3 ⟨rfl, hGC⟩
    have g3 : G w w3 := g2.trans hGC
    obtain ⟨Z, hZ, hZs, hZn, hZc⟩ := zc_ex
    have HZ := Lib.hid hZc
    clear hZc
    have a3 := Arr.new w3 HZ.out 58
    have HTH3 : Hid ((w3.alloc (.cells Z 58)).there w3.heap.size 0 (arrL (carr f l)).toArray.size) := Lib.hid (by rw [arrS]; exact a3.there)
    have HO := Lib.hid (arrL_one (carr f l))
    have HI := Lib.hid (show (Tryd.prog.info? 58).map (·.size) = some (arrL (carr f l)).toArray.size by rw [arrS]; exact aInfo)
    have HA3 := Lib.hid (a3.stored (carr f l))
    have hG3 : G w3 ((w3.alloc (.cells Z 58)).setCells w3.heap.size 0 (arrL (carr f l))) := G.setCells w3.heap.size (Nat.le_refl _) (arrL (carr f l)) 0 ((G.refl w3).alloc _)
    clear a3
    generalize hLA : arrL (carr f l) = LA at *
    clear hLA
    go_wp2_with (refine wpList_store_mid rfl 58 _ _ rfl w3.heap.size 0 LA.toArray rfl rfl HTH3.out HI.out HO.out ?_)
    refine (rCheck_any f a l n c _ hn.out (by omega) (H1.out.later (g3.trans hG3))).mono ?_
    rintro e w4 ⟨rfl, hG4⟩
    rw [HE.out]
    have g4 : G w w4 := (g3.trans hG3).trans hG4
    have HA4 := Lib.hid (HA3.out.later hG4)
    clear hG3 HTH3 HA3 HO HI hG4
    go_wp2_with fail
    refine (rDisplay_any f a l n c _ hn.out (by omega) (H1.out.later g4) HK.out.2.2.1 HK.out.1).mono ?_
    rintro e w5 ⟨v, gf, cap, rfl, _, hgf, _, hAf, hG5⟩
    have g5 : G w w5 := g4.trans hG5
    have HA5 := Lib.hid (HA4.out.later hG5)
    have HAF := Lib.hid hAf
    clear hAf HA4
    go_wp2_with fail
    go_loopg [10] 77 (fun q x wr => ∃ i : Nat, x = .int .i64 i ∧ q = 77 - i ∧ i ≤ 77 ∧ G w5 wr)
    case atStart => exact ⟨0, rfl, by omega, by omega, by (repeat' (first | (with_reducible exact G.refl _) | (with_reducible assumption) | (with_reducible refine G.drewN ?_ _) | (with_reducible refine G.drew ?_) | (with_reducible refine G.alloc ?_ _) | (with_reducible refine G.setCell ?_ (by first | (with_reducible exact Nat.le_refl _) | (simp; done) | (simp; omega) | omega) _) | (with_reducible refine G.trans ?_ (by assumption))))⟩
    case round =>
      obtain ⟨i, rfl, hq, hi, gr⟩ := hrel
      have HQ := Lib.hid hq
      clear hq
      by_cases hin : i < 77
      · have x0 := gr.at (HA5.out i hin).1
        have y0 := gr.at (HAF.out i hin).1
        have b1 : (0 : Int) ≤ (i : Int) := by omega
        have b2 : (i : Int) < 77 := by omega
        have q1 := IntWalk.i64_in ((i : Int) + 1) (by omega)
        generalize carr f l i = KK at *
        have k1 : (KK == KK) = true := by simp
        have k2 : (KK != KK) = false := by simp
        go_wp2_with fail
        go_big_region
        all_goals
          go_wp2_with fail
          go_roundg (77 - (i + 1))
          case measure => have := HQ.out; omega
          case rel => exact ⟨i + 1, by first | rfl | simp, rfl, by omega, by (repeat' (first | (with_reducible exact G.refl _) | (with_reducible assumption) | (with_reducible refine G.drewN ?_ _) | (with_reducible refine G.drew ?_) | (with_reducible refine G.alloc ?_ _) | (with_reducible refine G.setCell ?_ (by first | (with_reducible exact Nat.le_refl _) | (simp; done) | (simp; omega) | omega) _) | (with_reducible refine G.trans ?_ (by assumption))))⟩
      · have hii : i = 77 := by omega
        subst hii
        go_wp2_with fail
        go_ret
        exact ⟨by first | rfl | simp, g5.trans (by (repeat' (first | (with_reducible exact G.refl _) | (with_reducible assumption) | (with_reducible refine G.drewN ?_ _) | (with_reducible refine G.drew ?_) | (with_reducible refine G.alloc ?_ _) | (with_reducible refine G.setCell ?_ (by first | (with_reducible exact Nat.le_refl _) | (simp; done) | (simp; omega) | omega) _) | (with_reducible refine G.trans ?_ (by assumption)))))⟩
  · skip
    obtain ⟨E, hEE⟩ : ∃ z : Int, Hid (ckA f l = z) := ⟨_, rfl⟩
    have e0 : E ≠ 0 := by rw [← hEE.out]; exact hE
    have HE := Lib.hid hE
    have b3 : (E == 0) = false := beq_false_of_ne e0
    have b4 : (E != 0) = true := by simp [bne, b3]
    have b5 : (E == E) = true := by simp
    clear hE e0
    refine (Carry_bad f a2 l n c2 _ hn.out HN2.out HE.out).mono ?_
    rintro e w3 ⟨rfl, hGC⟩
    rw [hEE.out]
    have g3 : G w w3 := g2.trans hGC
    obtain ⟨Z, hZ, hZs, hZn, hZc, _, hZa, hZe⟩ := zc_ex2
    subst hZa
    have HZ := Lib.hid hZc
    clear hZc
    have a3 := Arr.new w3 HZ.out 58
    have HTH3 : Hid ((w3.alloc (.cells (arrL (fun _ => 0)).toArray 58)).there w3.heap.size 0 (arrL (fun _ => 0)).toArray.size) := Lib.hid (by rw [arrS]; exact a3.there)
    have HO := Lib.hid (arrL_one (fun _ => 0))
    have HI := Lib.hid (show (Tryd.prog.info? 58).map (·.size) = some (arrL (fun _ => 0)).toArray.size by rw [arrS]; exact aInfo)
    have HA3 := Lib.hid (a3.stored (fun _ => 0))
    have hG3 : G w3 ((w3.alloc (.cells (arrL (fun _ => 0)).toArray 58)).setCells w3.heap.size 0 (arrL (fun _ => 0))) := G.setCells w3.heap.size (Nat.le_refl _) (arrL (fun _ => 0)) 0 ((G.refl w3).alloc _)
    clear a3
    generalize hLA : arrL (fun _ => 0) = LA at *
    have HLA := Lib.hid hLA
    clear hLA
    go_wp2_with (refine wpList_store_mid rfl 58 _ _ rfl w3.heap.size 0 LA.toArray rfl rfl HTH3.out HI.out HO.out ?_)
    refine (rCheck_any f a l n c _ hn.out (by omega) (H1.out.later (g3.trans hG3))).mono ?_
    rintro e w4 ⟨rfl, hG4⟩
    rw [hEE.out]
    have g4 : G w w4 := (g3.trans hG3).trans hG4
    have HA4 := Lib.hid (HA3.out.later hG4)
    have hr4 := HA4.out.range
    rw [HLA.out] at hr4
    have HR4 := Lib.hid hr4
    have HI2 := Lib.hid (show (Tryd.prog.info? 58).map (·.size) = some LA.length by rw [← HLA.out, arrL_len]; exact aInfo)
    clear hr4
    clear hG3 HTH3 HA3 HO HI hG4 HA4 HZ
    go_wp2_with fail
    refine wp_load_mid 58 _ rfl w3.heap.size 0 rfl LA _ HR4.out Tryd.underlying58 rfl HI2.out ?_
    go_wp2_with fail
    go_ret
    exact ⟨by first | rfl | simp, g4⟩

/-! ### the row and the card -/
open Go.ChangeShapes Go.WideShapes Go.ChangeAt Go.RowKit
set_option maxRecDepth 100000 in
theorem accidentalCarries_lifted (os : Os) (started : os.Started) (H : Type) (enc : TypeId × Value → H) :
    ReturnsInHanded {} Tryd.checked os 9 .any (fun w args => (Rows.accidentalCarriesSpec.pre enc Tryd.prog Tryd.f9 [] false w args ∧ laidMetH Tryd.prog laidL w) ∧ sizedMet enc Tryd.prog Tryd.f9 (OpenSpec.ofChange Rows.accidentalCarriesSpec) false w args)
      (Rows.accidentalCarriesSpec.post enc Tryd.prog Tryd.f9 false true false false) := by
  refine returnsInHanded_of_change_and (C := Tryd.checked) (X := fun w _ => laidMetH Tryd.prog laidL w) (fun _ _ _ hh h => h.of_heap hh) own started (by kernel_rfl) Tryd.func9
    (ChangeSpec.witness_shaped (enc := enc) (C := Tryd.checked) (os := os) (X := fun w _ => laidMetH Tryd.prog laidL w) false (World.laidAll Tryd.prog os laidL) #[.int .i64 0, .slice none 0 0] 8 (World.laidAll_os _ _ _) (shapedL os) (by kernel_rfl) (by kernel_rfl) (by kernel_rfl) (laid_met os _)) ?_
  intro W base args ds gs before hval0 hW _ _ hL _
  have hval : ∀ (j : Nat) t v, Tryd.f9.params[j]? = some t → args[j]? = some v → Value.okWide Tryd.prog W .any base t v := hval0
  have hW' := hW
  obtain ⟨p, q, hA0, hV, rfl, hfz, hnd⟩ := hW
  have hA : DataW.TrodAll enc Tryd.prog W 0 (fun _ => true) true Tryd.f9.params.toList args.toList ds p := hA0
  rw [Tryd.params9] at hA hval
  obtain ⟨v0, vs0, d0, ds0, p0, q0, hargs, rfl, rfl, h0, r0⟩ := trodAll_cons hA
  obtain ⟨v1, vs1, d1, ds1, p1, q1, rfl, rfl, rfl, h1, r1⟩ := trodAll_cons r0
  obtain ⟨rfl, rfl, rfl⟩ := trodAll_nil r1
  obtain rfl : args = #[v0, v1] := by cases args; simp_all
  obtain ⟨rfl, rfl⟩ := trodVars_none hV
  obtain ⟨a0, rfl, rfl, rfl, w0⟩ := open_int Tryd.underlying3 (hval 0 3 v0 rfl rfl) h0
  obtain ⟨bl0, bh0⟩ := bounds_i64 w0
  have keep1 := h1
  obtain ⟨a1, cap1, l1, rfl, lc1, mc1, la1, wf1, lz1⟩ := open_nsArg (hval 1 22 v1 rfl rfl) h1
  clear hA0 hval0
  simp only [List.append_nil] at hW'
  have hlt1 : ∀ x ∈ p1, x.block < W.heap.size := fun x hx => by have := hW'.lt x (by simp [hx]); simpa using this
  refine (carr_walk a0 a1 l1 cap1 W bl0 bh0 lc1 mc1 la1 lz1  (tab_of_laid hL)).mono fun e W' ⟨he, hg⟩ => ?_
  subst he
  exact ⟨_, rfl, _, _, _, [], ([] ++ (p1 ++ [])), [], hW', (trodAll_cons_mk (shut_bool Tryd.underlying4 _) trodAll_mk0), (trodAll_cons_mk (shut_int Tryd.underlying3 w0) (trodAll_cons_mk (Below.trod (by kernel_rfl) (by kernel_rfl) (of_decide_eq_true (by kernel_rfl)) keep1 hg hlt1) trodAll_mk0)), rfl, Below.frame hg _, fun h => by cases h⟩

theorem accidentalCarries_holds : Rows.AccidentalCarriesSaid :=
  OpenClaim.holds_of_wide 9 Tryd.f9 rfl rfl rfl rfl rfl rfl rfl ⟨rfl, rfl, rfl, rfl, rfl⟩ rfl rfl rfl rfl rfl (by kernel_rfl) Tryd.func9 (by kernel_rfl)
    (of_decide_eq_true (by kernel_rfl)) (by unfold Func.isWrapper; first | (rw [if_pos (by decide +kernel)]; kernel_rfl) | (rw [if_neg (by decide +kernel)]; exact ⟨rfl, rfl⟩))
    (fun os started H enc _ => accidentalCarries_lifted os started H enc)

theorem accidentalCarries_card : Rows.AccidentalCarriesCardSaid :=
  Claim7.holds_tied_plain_at .later [] [.data] true (true, "4264632c309685b5b10934852733a39ae7af05b3fbb51cbce9b1665c55e2b979") false
    accidentalCarries_holds (fun _ h => by cases h) (by kernel_rfl) (fun _ h => by cases h) accidentalCarries_row_tie rfl ⟨rfl, rfl⟩ (by kernel_rfl) rfl
    (fun f fn hf hfn => by
      obtain rfl : f = 9 := Option.some.inj ((show Tryd.prog.funcNamed "hemiola/hemiolalaw10.AccidentalCarries" = some 9 by kernel_rfl).symm.trans hf) |>.symm
      obtain rfl : fn = Tryd.f9 := (Option.some.inj (Tryd.func9.symm.trans hfn)).symm
      exact ⟨by kernel_rfl, fun j t ht => by
        rw [Tryd.params9] at ht
        have hm : t ∈ [3, 22] := by simpa using Array.mem_of_getElem? ht
        have hall : ([3, 22].all fun u => !Tryd.prog.wantsStandIn u) = true := by kernel_rfl
        exact (show Tryd.prog.wantsStandIn t = false by simpa using List.all_eq_true.1 hall t hm)⟩)
    (by kernel_rfl)
#print axioms accidentalCarries_card
end Go.Proofs.YtghlecocnflbnaaDoor
