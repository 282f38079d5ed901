/- AccidentalLimit: a list of 2560 notes or places is accepted, and one more is not; the arguments read as before; the table that the row lists is tied to the program text; no further condition. -/
import Derived.Test.YtghlecocnflbnaaDoorM1
import Derived.Test.YtghlecocnflbnaaDoorA9
namespace Go.Proofs.YtghlecocnflbnaaDoor
open Go.RowKit Go.ChangeShapes Go.WideShapes
attribute [local go_sem] World.cell?_alloc_some

set_option maxRecDepth 100000 in
set_option maxHeartbeats 12800000 in
theorem limit_walk (more : Bool) (A : Int) (w : World) (hA0 : 0 ≤ A) (_ : A ≤ 255) (hT : Tab w) :
    Calls Tryd.prog 12 #[.bool more, .int .u8 A] w fun e w' => e = .returned (.bool true) ∧ G w w' := by
  have HT := Lib.hid hT
  clear hT
  cases more
  · skip
    obtain ⟨ZN, mkN, nwN⟩ := mk_notes 2560 2560 rfl (by omega)
    obtain ⟨ZP, mkP, nwP⟩ := mk_places 2560 2560 rfl (by omega)
    have HNW := Lib.hid nwN
    have HPW := Lib.hid nwP
    have q0 := IntWalk.i64_in A (by omega)
    clear nwN nwP
    go_enter Tryd.func12, Tryd.ntmps12
    go_wp2_with fail
    have n0 := Lib.hid ((HNW.out w A).later (show G (w.alloc (.cells ZN 65)) ((w.alloc (.cells ZN 65)).alloc (.cells ZP 45)) by (repeat' (first | (with_reducible exact G.refl _) | (with_reducible assumption) | (with_reducible refine G.drewN ?_ _) | (with_reducible refine G.drew ?_) | (with_reducible refine G.alloc ?_ _) | (with_reducible refine G.setCell ?_ (by first | (with_reducible exact Nat.le_refl _) | (simp; done) | (simp; omega) | omega) _) | (with_reducible refine G.trans ?_ (by assumption))))))
    have p0 := Lib.hid (HPW.out (w.alloc (.cells ZN 65)) A)
    have hB : (w.alloc (.cells ZN 65)).heap.size = w.heap.size + 1 := by simp
    rw [hB] at p0
    have g1 : G w ((w.alloc (.cells ZN 65)).alloc (.cells ZP 45)) := by (repeat' (first | (with_reducible exact G.refl _) | (with_reducible assumption) | (with_reducible refine G.drewN ?_ _) | (with_reducible refine G.drew ?_) | (with_reducible refine G.alloc ?_ _) | (with_reducible refine G.setCell ?_ (by first | (with_reducible exact Nat.le_refl _) | (simp; done) | (simp; omega) | omega) _) | (with_reducible refine G.trans ?_ (by assumption))))
    clear hB mkN mkP
    generalize (w.alloc (.cells ZN 65)).alloc (.cells ZP 45) = W at *
    go_loopg [8] 2560 (fun q x wr => ∃ i : Nat, x = .int .i64 i ∧ q = 2560 - i ∧ i ≤ 2560 ∧ Hid (MR wr w.heap.size 2560 6 zN A i) ∧ Hid (MR wr (w.heap.size + 1) 2560 7 zP A i) ∧ G w wr)
    case atStart => exact ⟨0, rfl, by omega, by omega, n0, p0, g1⟩
    case round =>
      obtain ⟨i, rfl, hq, hi, hn, hp, gr⟩ := hrel
      have HQ := Lib.hid hq
      clear hq
      by_cases hin : i < 2560
      · have b1 : (0 : Int) ≤ (i : Int) := by omega
        have b2 : (i : Int) < 2560 := by omega
        have q1 := IntWalk.i64_in ((i : Int) + 1) (by omega)
        obtain ⟨x0, f0⟩ := hn.out i 0 hin (by decide)
        obtain ⟨y0, e0⟩ := hp.out i 0 hin (by decide)
        obtain ⟨y1, e1⟩ := (hp.out.far (b := w.heap.size) (by omega) (i * 6) (.int .i64 A)) i 0 hin (by decide)
        rw [Nat.add_zero (i * 6)] at x0 f0
        rw [Nat.add_zero (i * 7)] at y0 e0 y1 e1
        rw [if_neg (by omega)] at x0 y0 y1
        rw [show zN 0 = .int .i64 0 from rfl] at x0
        rw [show zP 0 = .int .i64 0 from rfl] at y0 y1
        have HN2 := Lib.hid ((hn.out.set hin (by decide)).far (b := w.heap.size + 1) (by omega) (i * 7) (.int .i64 A))
        have HP2 := Lib.hid ((hp.out.far (b := w.heap.size) (by omega) (i * 6) (.int .i64 A)).set hin (by decide))
        have gN : G w ((wr.setCell ⟨w.heap.size, i * 6, none⟩ (.int .i64 A)).setCell ⟨w.heap.size + 1, i * 7, none⟩ (.int .i64 A)) := (gr.setCell (by simp) _).setCell (by simp) _
        go_wp2_with fail
        go_roundg (2560 - (i + 1))
        case measure => have := HQ.out; omega
        case rel => exact ⟨i + 1, by first | rfl | simp, rfl, by omega, HN2, HP2, gN⟩
      · have hii : i = 2560 := by omega
        subst hii
        obtain ⟨LN, hLN, hNA, hCA⟩ := made_notes hn.out hA0
        obtain ⟨LP, hLP, hPA, hCB⟩ := made_places hp.out hA0
        rw [if_pos (by decide)] at hCA hCB
        have HLN := Lib.hid hLN
        have HLP := Lib.hid hLP
        have HNA := Lib.hid hNA
        have HPA := Lib.hid hPA
        have HCA := Lib.hid hCA
        have HCB := Lib.hid hCB
        clear hLN hLP hNA hPA hCA hCB hn hp n0 p0
        go_wp2_with fail
        refine (Display_ok 0 _ LN 2560 2560 _ HLN.out HNA.out (HT.out.later gr) HCA.out).mono ?_
        rintro e w3 ⟨v, rfl, hR3, hG3⟩
        have g3 : G w w3 := gr.trans hG3
        obtain ⟨p3, c3, rfl, _⟩ := hR3.len
        rw [show (disp 0 LN).length = 2560 by unfold disp; rw [dsM_len]; exact HLN.out]
        clear hR3
        go_wp2_with fail
        refine (Read_ok 0 _ LP 2560 2560 _ HLP.out (HPA.out.later hG3) (HT.out.later g3) HCB.out).mono ?_
        rintro e w4 ⟨v, rfl, hR4, hG4⟩
        have g4 : G w w4 := g3.trans hG4
        obtain ⟨p4, c4, rfl, _⟩ := hR4.len
        rw [show (rdL (sg0 0) LP).length = 2560 by rw [rdL_len]; exact HLP.out]
        clear hR4
        go_wp2_with fail
        refine (known_any _ (HT.out.later g4)).mono ?_
        rintro e w5 ⟨rfl, hG5⟩
        go_wp2_with fail
        go_ret
        exact ⟨by first | rfl | simp, g4.trans hG5⟩
  · skip
    obtain ⟨ZN, mkN, nwN⟩ := mk_notes 2561 2561 rfl (by omega)
    obtain ⟨ZP, mkP, nwP⟩ := mk_places 2561 2561 rfl (by omega)
    have HNW := Lib.hid nwN
    have HPW := Lib.hid nwP
    have q0 := IntWalk.i64_in A (by omega)
    clear nwN nwP
    go_enter Tryd.func12, Tryd.ntmps12
    go_wp2_with fail
    have n0 := Lib.hid ((HNW.out w A).later (show G (w.alloc (.cells ZN 65)) ((w.alloc (.cells ZN 65)).alloc (.cells ZP 45)) by (repeat' (first | (with_reducible exact G.refl _) | (with_reducible assumption) | (with_reducible refine G.drewN ?_ _) | (with_reducible refine G.drew ?_) | (with_reducible refine G.alloc ?_ _) | (with_reducible refine G.setCell ?_ (by first | (with_reducible exact Nat.le_refl _) | (simp; done) | (simp; omega) | omega) _) | (with_reducible refine G.trans ?_ (by assumption))))))
    have p0 := Lib.hid (HPW.out (w.alloc (.cells ZN 65)) A)
    have hB : (w.alloc (.cells ZN 65)).heap.size = w.heap.size + 1 := by simp
    rw [hB] at p0
    have g1 : G w ((w.alloc (.cells ZN 65)).alloc (.cells ZP 45)) := by (repeat' (first | (with_reducible exact G.refl _) | (with_reducible assumption) | (with_reducible refine G.drewN ?_ _) | (with_reducible refine G.drew ?_) | (with_reducible refine G.alloc ?_ _) | (with_reducible refine G.setCell ?_ (by first | (with_reducible exact Nat.le_refl _) | (simp; done) | (simp; omega) | omega) _) | (with_reducible refine G.trans ?_ (by assumption))))
    clear hB mkN mkP
    generalize (w.alloc (.cells ZN 65)).alloc (.cells ZP 45) = W at *
    go_loopg [8] 2561 (fun q x wr => ∃ i : Nat, x = .int .i64 i ∧ q = 2561 - i ∧ i ≤ 2561 ∧ Hid (MR wr w.heap.size 2561 6 zN A i) ∧ Hid (MR wr (w.heap.size + 1) 2561 7 zP A i) ∧ G w wr)
    case atStart => exact ⟨0, rfl, by omega, by omega, n0, p0, g1⟩
    case round =>
      obtain ⟨i, rfl, hq, hi, hn, hp, gr⟩ := hrel
      have HQ := Lib.hid hq
      clear hq
      by_cases hin : i < 2561
      · have b1 : (0 : Int) ≤ (i : Int) := by omega
        have b2 : (i : Int) < 2561 := by omega
        have q1 := IntWalk.i64_in ((i : Int) + 1) (by omega)
        obtain ⟨x0, f0⟩ := hn.out i 0 hin (by decide)
        obtain ⟨y0, e0⟩ := hp.out i 0 hin (by decide)
        obtain ⟨y1, e1⟩ := (hp.out.far (b := w.heap.size) (by omega) (i * 6) (.int .i64 A)) i 0 hin (by decide)
        rw [Nat.add_zero (i * 6)] at x0 f0
        rw [Nat.add_zero (i * 7)] at y0 e0 y1 e1
        rw [if_neg (by omega)] at x0 y0 y1
        rw [show zN 0 = .int .i64 0 from rfl] at x0
        rw [show zP 0 = .int .i64 0 from rfl] at y0 y1
        have HN2 := Lib.hid ((hn.out.set hin (by decide)).far (b := w.heap.size + 1) (by omega) (i * 7) (.int .i64 A))
        have HP2 := Lib.hid ((hp.out.far (b := w.heap.size) (by omega) (i * 6) (.int .i64 A)).set hin (by decide))
        have gN : G w ((wr.setCell ⟨w.heap.size, i * 6, none⟩ (.int .i64 A)).setCell ⟨w.heap.size + 1, i * 7, none⟩ (.int .i64 A)) := (gr.setCell (by simp) _).setCell (by simp) _
        go_wp2_with fail
        go_roundg (2561 - (i + 1))
        case measure => have := HQ.out; omega
        case rel => exact ⟨i + 1, by first | rfl | simp, rfl, by omega, HN2, HP2, gN⟩
      · have hii : i = 2561 := by omega
        subst hii
        obtain ⟨LN, hLN, hNA, hCA⟩ := made_notes hn.out hA0
        obtain ⟨LP, hLP, hPA, hCB⟩ := made_places hp.out hA0
        rw [if_neg (by decide)] at hCA hCB
        have HLN := Lib.hid hLN
        have HLP := Lib.hid hLP
        have HNA := Lib.hid hNA
        have HPA := Lib.hid hPA
        have HCA := Lib.hid hCA
        have HCB := Lib.hid hCB
        clear hLN hLP hNA hPA hCA hCB hn hp n0 p0
        go_wp2_with fail
        refine (Display_bad 0 _ LN 2561 2561 _ HLN.out HNA.out (by rw [HCA.out]; decide)).mono ?_
        rintro e w3 ⟨rfl, hG3⟩
        have g3 : G w w3 := gr.trans hG3
        rw [HCA.out]
        go_wp2_with fail
        refine (Read_bad 0 _ LP 2561 2561 _ HLP.out (HPA.out.later hG3) (by rw [HCB.out]; decide)).mono ?_
        rintro e w4 ⟨rfl, hG4⟩
        have g4 : G w w4 := g3.trans hG4
        rw [HCB.out]
        go_wp2_with fail
        refine (known_any _ (HT.out.later g4)).mono ?_
        rintro e w5 ⟨rfl, hG5⟩
        go_wp2_with fail
        go_ret
        exact ⟨by first | rfl | simp, g4.trans hG5⟩

/-! ### the row and the card -/
open Go.ChangeShapes Go.WideShapes Go.ChangeAt Go.RowKit
set_option maxRecDepth 100000 in
theorem accidentalLimit_lifted (os : Os) (started : os.Started) (H : Type) (enc : TypeId × Value → H) :
    ReturnsInHanded {} Tryd.checked os 12 .any (fun w args => (Rows.accidentalLimitSpec.pre enc Tryd.prog Tryd.f12 [] false w args ∧ laidMetH Tryd.prog laidL w) ∧ sizedMet enc Tryd.prog Tryd.f12 (OpenSpec.ofChange Rows.accidentalLimitSpec) false w args)
      (Rows.accidentalLimitSpec.post enc Tryd.prog Tryd.f12 false true false false) := by
  refine returnsInHanded_of_change_and (C := Tryd.checked) (X := fun w _ => laidMetH Tryd.prog laidL w) (fun _ _ _ hh h => h.of_heap hh) own started (by kernel_rfl) Tryd.func12
    (ChangeSpec.witness_shaped (enc := enc) (C := Tryd.checked) (os := os) (X := fun w _ => laidMetH Tryd.prog laidL w) false (World.laidAll Tryd.prog os laidL) #[.bool false, .int .u8 0] 8 (World.laidAll_os _ _ _) (shapedL os) (by kernel_rfl) (by kernel_rfl) (by kernel_rfl) (laid_met os _)) ?_
  intro W base args ds gs before hval0 hW _ _ hL _
  have hval : ∀ (j : Nat) t v, Tryd.f12.params[j]? = some t → args[j]? = some v → Value.okWide Tryd.prog W .any base t v := hval0
  have hW' := hW
  obtain ⟨p, q, hA0, hV, rfl, hfz, hnd⟩ := hW
  have hA : DataW.TrodAll enc Tryd.prog W 0 (fun _ => true) true Tryd.f12.params.toList args.toList ds p := hA0
  rw [Tryd.params12] at hA hval
  obtain ⟨v0, vs0, d0, ds0, p0, q0, hargs, rfl, rfl, h0, r0⟩ := trodAll_cons hA
  obtain ⟨v1, vs1, d1, ds1, p1, q1, rfl, rfl, rfl, h1, r1⟩ := trodAll_cons r0
  obtain ⟨rfl, rfl, rfl⟩ := trodAll_nil r1
  obtain rfl : args = #[v0, v1] := by cases args; simp_all
  obtain ⟨rfl, rfl⟩ := trodVars_none hV
  obtain ⟨a0, rfl, rfl, rfl⟩ := open_bool Tryd.underlying4 (hval 0 4 v0 rfl rfl) h0
  obtain ⟨a1, rfl, rfl, rfl, w1⟩ := open_int Tryd.underlying5 (hval 1 5 v1 rfl rfl) h1
  obtain ⟨bl1, bh1⟩ := bounds_u8 w1
  clear hA0 hval0
  simp only [List.append_nil] at hW'
  refine (limit_walk a0 a1 W  bl1 bh1  (tab_of_laid hL)).mono fun e W' ⟨he, hg⟩ => ?_
  subst he
  exact ⟨_, rfl, _, _, _, [], [], [], hW', (trodAll_cons_mk (shut_bool Tryd.underlying4 _) trodAll_mk0), (trodAll_cons_mk (shut_bool Tryd.underlying4 _) (trodAll_cons_mk (shut_int Tryd.underlying5 w1) trodAll_mk0)), rfl, Below.frame hg _, fun h => by cases h⟩

theorem accidentalLimit_holds : Rows.AccidentalLimitSaid :=
  OpenClaim.holds_of_wide 12 Tryd.f12 rfl rfl rfl rfl rfl rfl rfl ⟨rfl, rfl, rfl, rfl, rfl⟩ rfl rfl rfl rfl rfl (by kernel_rfl) Tryd.func12 (by kernel_rfl)
    (of_decide_eq_true (by kernel_rfl)) (by unfold Func.isWrapper; first | (rw [if_pos (by decide +kernel)]; kernel_rfl) | (rw [if_neg (by decide +kernel)]; exact ⟨rfl, rfl⟩))
    (fun os started H enc _ => accidentalLimit_lifted os started H enc)

theorem accidentalLimit_card : Rows.AccidentalLimitCardSaid :=
  Claim7.holds_tied_plain_at .later [] [.data] true (true, "4264632c309685b5b10934852733a39ae7af05b3fbb51cbce9b1665c55e2b979") false
    accidentalLimit_holds (fun _ h => by cases h) (by kernel_rfl) (fun _ h => by cases h) accidentalLimit_row_tie rfl ⟨rfl, rfl⟩ (by kernel_rfl) rfl
    (fun f fn hf hfn => by
      obtain rfl : f = 12 := Option.some.inj ((show Tryd.prog.funcNamed "hemiola/hemiolalaw10.AccidentalLimit" = some 12 by kernel_rfl).symm.trans hf) |>.symm
      obtain rfl : fn = Tryd.f12 := (Option.some.inj (Tryd.func12.symm.trans hfn)).symm
      exact ⟨by kernel_rfl, fun j t ht => by
        rw [Tryd.params12] at ht
        have hm : t ∈ [4, 5] := by simpa using Array.mem_of_getElem? ht
        have hall : ([4, 5].all fun u => !Tryd.prog.wantsStandIn u) = true := by kernel_rfl
        exact (show Tryd.prog.wantsStandIn t = false by simpa using List.all_eq_true.1 hall t hm)⟩)
    (by kernel_rfl)
#print axioms accidentalLimit_card
end Go.Proofs.YtghlecocnflbnaaDoor
