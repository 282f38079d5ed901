/- AccidentalRoundTrip: for any key signature and any list of up to 30 notes, reading what is displayed returns the alterations of the notes; the arguments read as before; the table that the row lists is tied to the program text; no further condition. -/
import Derived.Test.YtghlecocnflbnaaDoorKnown
import Derived.Test.YtghlecocnflbnaaDoorLaid
import Derived.Test.YtghlecocnflbnaaDoorA7
import Derived.Test.YtghlecocnflbnaaDoorR3
import Derived.Test.YtghlecocnflbnaaDoorR5
import Derived.Test.YtghlecocnflbnaaDoorP1
namespace Go.Proofs.YtghlecocnflbnaaDoor
open Go.RowKit Go.ChangeShapes Go.WideShapes
attribute [local go_sem] World.cell?_alloc_some

set_option maxRecDepth 100000 in
set_option maxHeartbeats 12800000 in
theorem round_walk (f : Int) (a : Option Addr) (l : List Nt) (c : Nat) (w : World) (_ : -9223372036854775808 ≤ f) (_ : f ≤ 9223372036854775807) (_ : l.length ≤ c) (_ : c ≤ maxLen) (h1 : NtsAt w a l) (_ : a = none → c = 0) (hT : Tab w) :
    Calls Tryd.prog 5 #[.int .i64 f, .slice a l.length c] w fun e w' => e = .returned (.bool true) ∧ G w w' := by
  have HT := Lib.hid hT
  have H1 := Lib.hid h1
  clear hT h1
  obtain ⟨n, hn⟩ : ∃ z : Nat, Hid (l.length = z) := ⟨_, rfl⟩
  rw [hn.out]
  by_cases h30 : 30 < (n : Int)
  · go_enter Tryd.func5, Tryd.ntmps5
    go_wp2_with fail
    refine (known_any _ (HT.out.later (by (repeat' (first | (with_reducible exact G.refl _) | (with_reducible assumption) | (with_reducible refine G.drewN ?_ _) | (with_reducible refine G.drew ?_) | (with_reducible refine G.alloc ?_ _) | (with_reducible refine G.setCell ?_ (by first | (with_reducible exact Nat.le_refl _) | (simp; done) | (simp; omega) | omega) _) | (with_reducible refine G.trans ?_ (by assumption))))))).mono ?_
    rintro e w1 ⟨rfl, hG1⟩
    have g1 : G w w1 := by (repeat' (first | (with_reducible exact G.refl _) | (with_reducible assumption) | (with_reducible refine G.drewN ?_ _) | (with_reducible refine G.drew ?_) | (with_reducible refine G.alloc ?_ _) | (with_reducible refine G.setCell ?_ (by first | (with_reducible exact Nat.le_refl _) | (simp; done) | (simp; omega) | omega) _) | (with_reducible refine G.trans ?_ (by assumption))))
    go_wp2_with fail
    refine (known_any _ (HT.out.later g1)).mono ?_
    rintro e w2 ⟨rfl, hG2⟩
    go_wp2_with fail
    go_ret
    exact ⟨by first | rfl | simp, g1.trans hG2⟩
  have hn2 : n ≤ 30 := by omega
  by_cases hE : ckA f l = 0
  · have HE := Lib.hid hE
    have HK := Lib.hid (ckA_ok hE)
    have hL : Hid ((disp f l).length = n) := Lib.hid (by unfold disp; rw [dsM_len]; exact hn.out)
    clear hE
    go_enter Tryd.func5, Tryd.ntmps5
    go_wp2_with fail
    refine (known_any _ (HT.out.later (by (repeat' (first | (with_reducible exact G.refl _) | (with_reducible assumption) | (with_reducible refine G.drewN ?_ _) | (with_reducible refine G.drew ?_) | (with_reducible refine G.alloc ?_ _) | (with_reducible refine G.setCell ?_ (by first | (with_reducible exact Nat.le_refl _) | (simp; done) | (simp; omega) | omega) _) | (with_reducible refine G.trans ?_ (by assumption))))))).mono ?_
    rintro e w1 ⟨rfl, hG1⟩
    have g1' : G w w1 := by (repeat' (first | (with_reducible exact G.refl _) | (with_reducible assumption) | (with_reducible refine G.drewN ?_ _) | (with_reducible refine G.drew ?_) | (with_reducible refine G.alloc ?_ _) | (with_reducible refine G.setCell ?_ (by first | (with_reducible exact Nat.le_refl _) | (simp; done) | (simp; omega) | omega) _) | (with_reducible refine G.trans ?_ (by assumption))))
    go_wp2_with fail
    refine (rCheck_any f a l n c _ hn.out (by omega) (H1.out.later g1')).mono ?_
    rintro e w0 ⟨rfl, hG0⟩
    rw [HE.out]
    have g1 : G w w0 := g1'.trans hG0
    clear g1' hG1 hG0
    go_wp2_with fail
    refine (own_any a l n c _ hn.out (by omega) (H1.out.later g1)).mono ?_
    rintro e w2 ⟨v, rfl, hR, hG2⟩
    have g2 : G w w2 := g1.trans hG2
    obtain ⟨a2, c2, rfl, hN2⟩ := hR.nts
    rw [hn.out]
    clear hR
    go_wp2_with fail
    refine (Display_ok f a2 l n c2 _ hn.out hN2 (HT.out.later g2) HE.out).mono ?_
    rintro e w3 ⟨v, rfl, hR3, hG3⟩
    have g3 : G w w3 := g2.trans hG3
    obtain ⟨a3, c3, rfl, hM3⟩ := Row.mks hR3
    rw [hL.out]
    have HM3 := Lib.hid hM3
    clear hR3 hM3
    go_wp2_with fail
    refine (places_any a a3 l (disp f l) n c c3 _ hn.out hL.out (by omega) (H1.out.later (by (repeat' (first | (with_reducible exact G.refl _) | (with_reducible assumption) | (with_reducible refine G.drewN ?_ _) | (with_reducible refine G.drew ?_) | (with_reducible refine G.alloc ?_ _) | (with_reducible refine G.setCell ?_ (by first | (with_reducible exact Nat.le_refl _) | (simp; done) | (simp; omega) | omega) _) | (with_reducible refine G.trans ?_ (by assumption)))))) HM3.out).mono ?_
    rintro e w4 ⟨v, rfl, hR4, hG4⟩
    have g4 : G w w4 := g3.trans hG4
    obtain ⟨a4, c4, rfl, hP4⟩ := Row.pls hR4
    have hL4 : (plL l (disp f l)).length = n := by rw [plL_len (by rw [hL.out, hn.out]), hn.out]
    rw [hL4]
    have HL4 := Lib.hid hL4
    have HP4 := Lib.hid hP4
    have HB4 := Lib.hid (show ckB f (plL l (disp f l)) = 0 by unfold ckB; rw [if_pos HK.out.1, if_pos (by rw [HL4.out]; omega)]; exact pl_ck (cl l) l (sg0 f) 0 HK.out.2.2.2.2)
    clear hR4 hP4 hL4
    go_wp2_with fail
    refine (Read_ok f a4 (plL l (disp f l)) n c4 _ HL4.out HP4.out (HT.out.later g4) HB4.out).mono ?_
    rintro e w5 ⟨v, rfl, hR5, hG5⟩
    have g5 : G w w5 := g4.trans hG5
    have hBK : rdL (sg0 f) (plL l (disp f l)) = l.map Nt.al := back (cl l) l (sg0 f) (fun m hm => (HK.out.2.2.1 m hm).2.2.1)
    rw [hBK] at hR5
    have HCE := Lib.hid (hR5.cells inE_len)
    obtain ⟨p5, c5, rfl, _⟩ := hR5.len
    rw [List.length_map, hn.out]
    clear hR5 hBK
    go_wp2_with fail
    go_loopg [9] n (fun q x wr => ∃ i : Nat, x = .int .i64 i ∧ q = n - i ∧ i ≤ n ∧ G w5 wr)
    case atStart => exact ⟨0, rfl, by omega, by omega, by (repeat' (first | (with_reducible exact G.refl _) | (with_reducible assumption) | (with_reducible refine G.drewN ?_ _) | (with_reducible refine G.drew ?_) | (with_reducible refine G.alloc ?_ _) | (with_reducible refine G.setCell ?_ (by first | (with_reducible exact Nat.le_refl _) | (simp; done) | (simp; omega) | omega) _) | (with_reducible refine G.trans ?_ (by assumption))))⟩
    case round =>
      obtain ⟨i, rfl, hq, hi, gr⟩ := hrel
      have HQ := Lib.hid hq
      clear hq
      by_cases hin : i < n
      · obtain ⟨⟨t, s, al, o, hd, sh⟩, hp⟩ : ∃ z, l[i]? = some z := ⟨l[i]'(by have := hn.out; omega), List.getElem?_eq_getElem (by have := hn.out; omega)⟩
        rcases H1.out with hz | ⟨bl, of, rfl, fc⟩
        · rw [hz] at hp; simp at hp
        obtain ⟨x0, x1, x2, x3, x4, x5⟩ := (fc i _ hp).later (g5.trans gr)
        dsimp only at x0 x1 x2 x3 x4 x5
        rcases HCE.out with ⟨_, hz⟩ | ⟨g, cap, hv, _, _, _, hc⟩
        · rw [List.map_eq_nil_iff] at hz; rw [hz] at hp; simp at hp
        simp only [Value.slice.injEq] at hv
        obtain ⟨hv1, _, _⟩ := hv
        have y0 := gr.at (hc i al (by rw [List.getElem?_map, hp]; rfl) 0 _ rfl).1
        rw [Nat.mul_one, Nat.add_zero] at y0
        subst hv1
        have b1 : (0 : Int) ≤ (i : Int) := by omega
        have b2 : (i : Int) < (n : Int) := by omega
        have q1 := IntWalk.i64_in ((i : Int) + 1) (by omega)
        have k1 : (al == al) = true := by simp
        have k2 : (al != al) = false := by simp
        clear fc hp hc
        skip
        go_wp2_with fail
        go_big_region
        all_goals
          go_wp2_with fail
          go_roundg (n - (i + 1))
          case measure => have := HQ.out; omega
          case rel => exact ⟨i + 1, by first | rfl | simp, rfl, by omega, by (repeat' (first | (with_reducible exact G.refl _) | (with_reducible assumption) | (with_reducible refine G.drewN ?_ _) | (with_reducible refine G.drew ?_) | (with_reducible refine G.alloc ?_ _) | (with_reducible refine G.setCell ?_ (by first | (with_reducible exact Nat.le_refl _) | (simp; done) | (simp; omega) | omega) _) | (with_reducible refine G.trans ?_ (by assumption))))⟩
      · have hii : i = n := by omega
        subst hii
        go_wp2_with fail
        go_ret
        exact ⟨by first | rfl | simp, g5.trans (by (repeat' (first | (with_reducible exact G.refl _) | (with_reducible assumption) | (with_reducible refine G.drewN ?_ _) | (with_reducible refine G.drew ?_) | (with_reducible refine G.alloc ?_ _) | (with_reducible refine G.setCell ?_ (by first | (with_reducible exact Nat.le_refl _) | (simp; done) | (simp; omega) | omega) _) | (with_reducible refine G.trans ?_ (by assumption)))))⟩
  · obtain ⟨E, hEE⟩ : ∃ z : Int, Hid (ckA f l = z) := ⟨_, rfl⟩
    have e0 : E ≠ 0 := by rw [← hEE.out]; exact hE
    have b3 : (E == 0) = false := beq_false_of_ne e0
    have b4 : (E != 0) = true := by simp [bne, b3]
    clear hE e0
    go_enter Tryd.func5, Tryd.ntmps5
    go_wp2_with fail
    refine (known_any _ (HT.out.later (by (repeat' (first | (with_reducible exact G.refl _) | (with_reducible assumption) | (with_reducible refine G.drewN ?_ _) | (with_reducible refine G.drew ?_) | (with_reducible refine G.alloc ?_ _) | (with_reducible refine G.setCell ?_ (by first | (with_reducible exact Nat.le_refl _) | (simp; done) | (simp; omega) | omega) _) | (with_reducible refine G.trans ?_ (by assumption))))))).mono ?_
    rintro e w1 ⟨rfl, hG1⟩
    have g1 : G w w1 := by (repeat' (first | (with_reducible exact G.refl _) | (with_reducible assumption) | (with_reducible refine G.drewN ?_ _) | (with_reducible refine G.drew ?_) | (with_reducible refine G.alloc ?_ _) | (with_reducible refine G.setCell ?_ (by first | (with_reducible exact Nat.le_refl _) | (simp; done) | (simp; omega) | omega) _) | (with_reducible refine G.trans ?_ (by assumption))))
    go_wp2_with fail
    refine (rCheck_any f a l n c _ hn.out (by omega) (H1.out.later g1)).mono ?_
    rintro e w2 ⟨rfl, hG2⟩
    rw [hEE.out]
    have g2 : G w w2 := g1.trans hG2
    go_wp2_with fail
    refine (known_any _ (HT.out.later g2)).mono ?_
    rintro e w3 ⟨rfl, hG3⟩
    go_wp2_with fail
    go_ret
    exact ⟨by first | rfl | simp, g2.trans hG3⟩

/-! ### the row and the card -/
open Go.ChangeShapes Go.WideShapes Go.ChangeAt Go.RowKit
set_option maxRecDepth 100000 in
theorem accidentalRoundTrip_lifted (os : Os) (started : os.Started) (H : Type) (enc : TypeId × Value → H) :
    ReturnsInHanded {} Tryd.checked os 5 .any (fun w args => (Rows.accidentalRoundTripSpec.pre enc Tryd.prog Tryd.f5 [] false w args ∧ laidMetH Tryd.prog laidL w) ∧ sizedMet enc Tryd.prog Tryd.f5 (OpenSpec.ofChange Rows.accidentalRoundTripSpec) false w args)
      (Rows.accidentalRoundTripSpec.post enc Tryd.prog Tryd.f5 false true false false) := by
  refine returnsInHanded_of_change_and (C := Tryd.checked) (X := fun w _ => laidMetH Tryd.prog laidL w) (fun _ _ _ hh h => h.of_heap hh) own started (by kernel_rfl) Tryd.func5
    (ChangeSpec.witness_shaped (enc := enc) (C := Tryd.checked) (os := os) (X := fun w _ => laidMetH Tryd.prog laidL w) false (World.laidAll Tryd.prog os laidL) #[.int .i64 0, .slice none 0 0] 8 (World.laidAll_os _ _ _) (shapedL os) (by kernel_rfl) (by kernel_rfl) (by kernel_rfl) (laid_met os _)) ?_
  intro W base args ds gs before hval0 hW _ _ hL _
  have hval : ∀ (j : Nat) t v, Tryd.f5.params[j]? = some t → args[j]? = some v → Value.okWide Tryd.prog W .any base t v := hval0
  have hW' := hW
  obtain ⟨p, q, hA0, hV, rfl, hfz, hnd⟩ := hW
  have hA : DataW.TrodAll enc Tryd.prog W 0 (fun _ => true) true Tryd.f5.params.toList args.toList ds p := hA0
  rw [Tryd.params5] at hA hval
  obtain ⟨v0, vs0, d0, ds0, p0, q0, hargs, rfl, rfl, h0, r0⟩ := trodAll_cons hA
  obtain ⟨v1, vs1, d1, ds1, p1, q1, rfl, rfl, rfl, h1, r1⟩ := trodAll_cons r0
  obtain ⟨rfl, rfl, rfl⟩ := trodAll_nil r1
  obtain rfl : args = #[v0, v1] := by cases args; simp_all
  obtain ⟨rfl, rfl⟩ := trodVars_none hV
  obtain ⟨a0, rfl, rfl, rfl, w0⟩ := open_int Tryd.underlying3 (hval 0 3 v0 rfl rfl) h0
  obtain ⟨bl0, bh0⟩ := bounds_i64 w0
  have keep1 := h1
  obtain ⟨a1, cap1, l1, rfl, lc1, mc1, la1, wf1, lz1⟩ := open_nsArg (hval 1 22 v1 rfl rfl) h1
  clear hA0 hval0
  simp only [List.append_nil] at hW'
  have hlt1 : ∀ x ∈ p1, x.block < W.heap.size := fun x hx => by have := hW'.lt x (by simp [hx]); simpa using this
  refine (round_walk a0 a1 l1 cap1 W bl0 bh0 lc1 mc1 la1 lz1  (tab_of_laid hL)).mono fun e W' ⟨he, hg⟩ => ?_
  subst he
  exact ⟨_, rfl, _, _, _, [], ([] ++ (p1 ++ [])), [], hW', (trodAll_cons_mk (shut_bool Tryd.underlying4 _) trodAll_mk0), (trodAll_cons_mk (shut_int Tryd.underlying3 w0) (trodAll_cons_mk (Below.trod (by kernel_rfl) (by kernel_rfl) (of_decide_eq_true (by kernel_rfl)) keep1 hg hlt1) trodAll_mk0)), rfl, Below.frame hg _, fun h => by cases h⟩

theorem accidentalRoundTrip_holds : Rows.AccidentalRoundTripSaid :=
  OpenClaim.holds_of_wide 5 Tryd.f5 rfl rfl rfl rfl rfl rfl rfl ⟨rfl, rfl, rfl, rfl, rfl⟩ rfl rfl rfl rfl rfl (by kernel_rfl) Tryd.func5 (by kernel_rfl)
    (of_decide_eq_true (by kernel_rfl)) (by unfold Func.isWrapper; first | (rw [if_pos (by decide +kernel)]; kernel_rfl) | (rw [if_neg (by decide +kernel)]; exact ⟨rfl, rfl⟩))
    (fun os started H enc _ => accidentalRoundTrip_lifted os started H enc)

theorem accidentalRoundTrip_card : Rows.AccidentalRoundTripCardSaid :=
  Claim7.holds_tied_plain_at .later [] [.data] true (true, "4264632c309685b5b10934852733a39ae7af05b3fbb51cbce9b1665c55e2b979") false
    accidentalRoundTrip_holds (fun _ h => by cases h) (by kernel_rfl) (fun _ h => by cases h) accidentalRoundTrip_row_tie rfl ⟨rfl, rfl⟩ (by kernel_rfl) rfl
    (fun f fn hf hfn => by
      obtain rfl : f = 5 := Option.some.inj ((show Tryd.prog.funcNamed "hemiola/hemiolalaw10.AccidentalRoundTrip" = some 5 by kernel_rfl).symm.trans hf) |>.symm
      obtain rfl : fn = Tryd.f5 := (Option.some.inj (Tryd.func5.symm.trans hfn)).symm
      exact ⟨by kernel_rfl, fun j t ht => by
        rw [Tryd.params5] at ht
        have hm : t ∈ [3, 22] := by simpa using Array.mem_of_getElem? ht
        have hall : ([3, 22].all fun u => !Tryd.prog.wantsStandIn u) = true := by kernel_rfl
        exact (show Tryd.prog.wantsStandIn t = false by simpa using List.all_eq_true.1 hall t hm)⟩)
    (by kernel_rfl)
#print axioms accidentalRoundTrip_card
end Go.Proofs.YtghlecocnflbnaaDoor
