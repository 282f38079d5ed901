/- AccidentalNeeded: for any key signature, any list of up to 30 notes and any note of these that is not held, whose Show is 0 and that has no other alteration at its staff position and tick beside it: if its mark is left out, Read returns another alteration for it; the arguments read as before; the table that the row lists is tied to the program text; no further condition. -/
import Derived.Test.YtghlecocnflbnaaDoorKnown
import Derived.Test.YtghlecocnflbnaaDoorLaid
import Derived.Test.YtghlecocnflbnaaDoorA7
import Derived.Test.YtghlecocnflbnaaDoorR3
import Derived.Test.YtghlecocnflbnaaDoorR5
import Derived.Test.YtghlecocnflbnaaDoorP1
namespace Go.Proofs.YtghlecocnflbnaaDoor
open Go.RowKit Go.ChangeShapes Go.WideShapes
attribute [local go_sem] World.cell?_alloc_some

theorem mks_set {w : World} {g k : Nat} {M : List (Int × Bool)} (hc : ∀ (i : Nat) (x : Int × Bool), M[i]? = some x → ∀ (j : Nat) (u : Value), (mkE2 x)[j]? = some u → w.cell? ⟨g, i * 2 + j, none⟩ = some u ∧ w.frozen? ⟨g, i * 2 + j, none⟩ = false) (hk : k < M.length) :
    MksAt ((w.setCell ⟨g, k * 2, none⟩ (.int .i64 0)).setCell ⟨g, k * 2 + 1, none⟩ (.bool false)) (some ⟨g, 0, none⟩) (M.set k (0, false)) := by
  refine .inr ⟨g, rfl, fun i m hm => ?_⟩
  have hi : i < M.length := by have := (List.getElem?_eq_some_iff.1 hm).1; rwa [List.length_set] at this
  obtain ⟨x, hx⟩ : ∃ x, M[i]? = some x := ⟨M[i], List.getElem?_eq_getElem hi⟩
  have c0 := (hc i x hx 0 _ rfl).1
  have c1 := (hc i x hx 1 _ rfl).1
  rw [Nat.add_zero] at c0
  by_cases e : i = k
  · subst e
    rw [List.getElem?_set_self hk] at hm
    obtain rfl := Option.some.inj hm
    refine ⟨?_, ?_⟩
    · rw [World.cell?_setCell_other _ _ _ _ (by simp), World.cell?_setCell_same _ _ _ c0]
    · rw [World.cell?_setCell_same _ _ _ (u := .bool x.2)]
      rw [World.cell?_setCell_other _ _ _ _ (by simp)]
      exact c1
  · rw [List.getElem?_set_ne (fun z => e z.symm), hx] at hm
    obtain rfl := Option.some.inj hm
    refine ⟨?_, ?_⟩
    · rw [World.cell?_setCell_other _ _ _ _ (by simp only [ne_eq, Addr.mk.injEq]; omega), World.cell?_setCell_other _ _ _ _ (by simp only [ne_eq, Addr.mk.injEq]; omega)]
      exact c0
    · rw [World.cell?_setCell_other _ _ _ _ (by simp only [ne_eq, Addr.mk.injEq]; omega), World.cell?_setCell_other _ _ _ _ (by simp only [ne_eq, Addr.mk.injEq]; omega)]
      exact c1

set_option maxRecDepth 100000 in
set_option maxHeartbeats 12800000 in
theorem needed_walk (f : Int) (a : Option Addr) (l : List Nt) (c : Nat) (b : Int) (w : World) (_ : -9223372036854775808 ≤ f) (_ : f ≤ 9223372036854775807) (_ : l.length ≤ c) (_ : c ≤ maxLen) (h1 : NtsAt w a l) (_ : a = none → c = 0) (bl0 : 0 ≤ b) (bh0 : b ≤ 255) (hT : Tab w) :
    Calls Tryd.prog 6 #[.int .i64 f, .slice a l.length c, .int .u8 b] w fun e w' => e = .returned (.bool true) ∧ G w w' := by
  have HT := Lib.hid hT
  have H1 := Lib.hid h1
  clear hT h1
  obtain ⟨n, hn⟩ : ∃ z : Nat, Hid (l.length = z) := ⟨_, rfl⟩
  rw [hn.out]
  by_cases h30 : 30 < (n : Int)
  · go_enter Tryd.func6, Tryd.ntmps6
    go_wp2_with fail
    refine (known_any _ (HT.out.later (by (repeat' (first | (with_reducible exact G.refl _) | (with_reducible assumption) | (with_reducible refine G.drewN ?_ _) | (with_reducible refine G.drew ?_) | (with_reducible refine G.alloc ?_ _) | (with_reducible refine G.setCell ?_ (by first | (with_reducible exact Nat.le_refl _) | (simp; done) | (simp; omega) | omega) _) | (with_reducible refine G.trans ?_ (by assumption))))))).mono ?_
    rintro e w1 ⟨rfl, hG1⟩
    have g1 : G w w1 := by (repeat' (first | (with_reducible exact G.refl _) | (with_reducible assumption) | (with_reducible refine G.drewN ?_ _) | (with_reducible refine G.drew ?_) | (with_reducible refine G.alloc ?_ _) | (with_reducible refine G.setCell ?_ (by first | (with_reducible exact Nat.le_refl _) | (simp; done) | (simp; omega) | omega) _) | (with_reducible refine G.trans ?_ (by assumption))))
    go_wp2_with fail
    refine (known_any _ (HT.out.later g1)).mono ?_
    rintro e w2 ⟨rfl, hG2⟩
    go_wp2_with fail
    go_ret
    exact ⟨by first | rfl | simp, g1.trans hG2⟩
  have hn2 : n ≤ 30 := by omega
  by_cases hz0 : n = 0
  · have kz : ((n : Int) == 0) = true := by rw [hz0]; rfl
    go_enter Tryd.func6, Tryd.ntmps6
    go_wp2_with fail
    refine (known_any _ (HT.out.later (by (repeat' (first | (with_reducible exact G.refl _) | (with_reducible assumption) | (with_reducible refine G.drewN ?_ _) | (with_reducible refine G.drew ?_) | (with_reducible refine G.alloc ?_ _) | (with_reducible refine G.setCell ?_ (by first | (with_reducible exact Nat.le_refl _) | (simp; done) | (simp; omega) | omega) _) | (with_reducible refine G.trans ?_ (by assumption))))))).mono ?_
    rintro e w1 ⟨rfl, hG1⟩
    have g1 : G w w1 := by (repeat' (first | (with_reducible exact G.refl _) | (with_reducible assumption) | (with_reducible refine G.drewN ?_ _) | (with_reducible refine G.drew ?_) | (with_reducible refine G.alloc ?_ _) | (with_reducible refine G.setCell ?_ (by first | (with_reducible exact Nat.le_refl _) | (simp; done) | (simp; omega) | omega) _) | (with_reducible refine G.trans ?_ (by assumption))))
    go_wp2_with fail
    refine (known_any _ (HT.out.later g1)).mono ?_
    rintro e w2 ⟨rfl, hG2⟩
    go_wp2_with fail
    go_ret
    exact ⟨by first | rfl | simp, g1.trans hG2⟩
  have kz : ((n : Int) == 0) = false := beq_false_of_ne (by omega)
  have hz1 : 0 < n := by omega
  clear hz0
  obtain ⟨kn, hkn⟩ : ∃ z : Nat, Hid (b % (n : Int) = (z : Int)) := ⟨(b % (n : Int)).toNat, Lib.hid (by have := Int.emod_nonneg b (b := (n : Int)) (by omega); omega)⟩
  have hq9 : b.tmod (n : Int) = (kn : Int) := by rw [Int.tmod_eq_emod_of_nonneg bl0, hkn.out]
  have b9 : (kn : Int) < (n : Int) := by rw [← hkn.out]; exact Int.emod_lt_of_pos b (by omega)
  have b8 : (0 : Int) ≤ (kn : Int) := by omega
  have q9 := IntWalk.i64_in b (by omega)
  by_cases hE : ckA f l = 0
  · have HE := Lib.hid hE
    have HK := Lib.hid (ckA_ok hE)
    have hL : Hid ((disp f l).length = n) := Lib.hid (by unfold disp; rw [dsM_len]; exact hn.out)
    clear hE
    go_enter Tryd.func6, Tryd.ntmps6
    go_wp2_with fail
    refine (known_any _ (HT.out.later (by (repeat' (first | (with_reducible exact G.refl _) | (with_reducible assumption) | (with_reducible refine G.drewN ?_ _) | (with_reducible refine G.drew ?_) | (with_reducible refine G.alloc ?_ _) | (with_reducible refine G.setCell ?_ (by first | (with_reducible exact Nat.le_refl _) | (simp; done) | (simp; omega) | omega) _) | (with_reducible refine G.trans ?_ (by assumption))))))).mono ?_
    rintro e w1 ⟨rfl, hG1⟩
    have g1' : G w w1 := by (repeat' (first | (with_reducible exact G.refl _) | (with_reducible assumption) | (with_reducible refine G.drewN ?_ _) | (with_reducible refine G.drew ?_) | (with_reducible refine G.alloc ?_ _) | (with_reducible refine G.setCell ?_ (by first | (with_reducible exact Nat.le_refl _) | (simp; done) | (simp; omega) | omega) _) | (with_reducible refine G.trans ?_ (by assumption))))
    go_wp2_with fail
    refine (rCheck_any f a l n c _ hn.out (by omega) (H1.out.later g1')).mono ?_
    rintro e w0 ⟨rfl, hG0⟩
    rw [HE.out]
    have g1 : G w w0 := g1'.trans hG0
    clear g1' hG1 hG0
    go_wp2_with fail
    try rw [hq9]
    refine (own_any a l n c _ hn.out (by omega) (H1.out.later g1)).mono ?_
    rintro e w2 ⟨v, rfl, hR, hG2⟩
    have g2 : G w w2 := g1.trans hG2
    obtain ⟨a2, c2, rfl, hN2⟩ := hR.nts
    rw [hn.out]
    clear hR
    go_wp2_with fail
    refine (Display_ok f a2 l n c2 _ hn.out hN2 (HT.out.later g2) HE.out).mono ?_
    rintro e w3 ⟨v, rfl, hR3, hG3⟩
    have g3 : G w w3 := g2.trans hG3
    rcases hR3.cells mkE_len with ⟨_, h0⟩ | ⟨g, c3, rfl, hgb, hcap, _, hc⟩
    · rw [h0] at hL; have := hL.out; simp at this; omega
    rw [hL.out] at hcap ⊢
    have HC3 := Lib.hid hc
    have hgw : w.heap.size ≤ g := by have := g2.size; omega
    clear hR3 hc
    obtain ⟨⟨t, s, al, o, hd, sh⟩, hp⟩ : ∃ z, l[kn]? = some z := ⟨l[kn]'(by have := hn.out; omega), List.getElem?_eq_getElem (by have := hn.out; omega)⟩
    obtain ⟨⟨K, PB⟩, hm⟩ : ∃ z, (disp f l)[kn]? = some z := ⟨(disp f l)[kn]'(by have := hL.out; omega), List.getElem?_eq_getElem (by have := hL.out; omega)⟩
    rcases H1.out with hz | ⟨bl, of, rfl, fc⟩
    · rw [hz] at hp; simp at hp
    obtain ⟨x0, x1, x2, x3, x4, x5⟩ := (fc kn _ hp).later g3
    obtain ⟨y0, y0f⟩ := HC3.out kn _ hm 0 _ rfl
    obtain ⟨y1, y1f⟩ := HC3.out kn _ hm 1 _ rfl
    rw [Nat.add_zero] at y0 y0f
    dsimp only at x0 x1 x2 x3 x4 x5 y0 y1
    have HP := Lib.hid hp
    have HM := Lib.hid hm
    have FC := Lib.hid fc
    clear fc hp hm
    by_cases eK : K = 0
    · have k1 : (K == 0) = true := by rw [eK]; rfl
      clear eK
      go_wp2_with fail
      go_ret
      exact ⟨by first | rfl | simp, by first | exact g3 | (repeat' (first | (with_reducible exact G.refl _) | (with_reducible assumption) | (with_reducible refine G.drewN ?_ _) | (with_reducible refine G.drew ?_) | (with_reducible refine G.alloc ?_ _) | (with_reducible refine G.setCell ?_ (by first | (with_reducible exact Nat.le_refl _) | (simp; done) | (simp; omega) | omega) _) | (with_reducible refine G.trans ?_ (by assumption))))⟩
    have k1 : (K == 0) = false := beq_false_of_ne eK
    by_cases ehd : hd = true
    · subst ehd
      go_wp2_with fail
      go_ret
      exact ⟨by first | rfl | simp, by first | exact g3 | (repeat' (first | (with_reducible exact G.refl _) | (with_reducible assumption) | (with_reducible refine G.drewN ?_ _) | (with_reducible refine G.drew ?_) | (with_reducible refine G.alloc ?_ _) | (with_reducible refine G.setCell ?_ (by first | (with_reducible exact Nat.le_refl _) | (simp; done) | (simp; omega) | omega) _) | (with_reducible refine G.trans ?_ (by assumption))))⟩
    obtain rfl : hd = false := by simpa using ehd
    clear ehd
    by_cases esh : sh = 0
    · have k2 : (sh == 0) = true := by rw [esh]; rfl
      have k3 : (sh != 0) = false := by simp [bne, k2]
      have HSH := Lib.hid esh
      have HEK := Lib.hid eK
      clear esh eK
      go_wp2_with fail
      refine (rClash_any _ l n c kn _ _ hn.out (by omega) (H1.out.later g3) HP.out).mono ?_
      rintro e w4 ⟨rfl, hG4⟩
      by_cases eC : cl l ⟨t, s, al, o, false, sh⟩ = true
      · rw [eC]
        go_wp2_with fail
        go_ret
        exact ⟨by first | rfl | simp, g3.trans hG4⟩
      · have eC' : cl l ⟨t, s, al, o, false, sh⟩ = false := by simpa using eC
        rw [eC']
        obtain ⟨x, hx, hne⟩ := without (cl l) l kn (sg0 f) _ _ (fun m hm => (HK.out.2.2.1 m hm).2.2.1) HP.out HM.out HEK.out rfl HSH.out eC'
        have HX := Lib.hid hx
        have ky : (x == al) = false := beq_false_of_ne hne
        have ky2 : (x != al) = true := by simp [bne, ky]
        clear eC eC' hx hne
        have g4 : G w w4 := g3.trans hG4
        have hgl := cell_lt y0
        simp only at hgl
        have z0 := hG4.at y0
        have z1 := hG4.at y1
        have z0f := (hG4.frozen (p := ⟨g, kn * 2, none⟩) hgl).trans y0f
        have z1f := (hG4.frozen (p := ⟨g, kn * 2 + 1, none⟩) hgl).trans y1f
        have HMS := Lib.hid (mks_set (w := w4) (g := g) (k := kn) (M := disp f l) (fun i y hy j u hu => ⟨hG4.at (HC3.out i y hy j u hu).1, (hG4.frozen (cell_lt (HC3.out i y hy j u hu).1)).trans (HC3.out i y hy j u hu).2⟩) (by rw [hL.out]; omega))
        have g5 : G w ((w4.setCell ⟨g, kn * 2, none⟩ (.int .i64 0)).setCell ⟨g, kn * 2 + 1, none⟩ (.bool false)) := (g4.setCell (p := ⟨g, kn * 2, none⟩) hgw _).setCell (p := ⟨g, kn * 2 + 1, none⟩) hgw _
        clear y0 y1 y0f y1f
        go_wp2_with fail
        have hL5 : Hid (((disp f l).set kn (0, false)).length = n) := Lib.hid (by rw [List.length_set]; exact hL.out)
        refine (places_any _ (some ⟨g, 0, none⟩) l ((disp f l).set kn (0, false)) n c c3 _ hn.out hL5.out (by omega) (H1.out.later g5) HMS.out).mono ?_
        rintro e w6 ⟨v, rfl, hR6, hG6⟩
        have g6 : G w w6 := g5.trans hG6
        obtain ⟨a4, c4, rfl, hP4⟩ := Row.pls hR6
        have hL4 : (plL l ((disp f l).set kn (0, false))).length = n := by rw [plL_len (by rw [hL5.out, hn.out]), hn.out]
        rw [hL4]
        have HL4 := Lib.hid hL4
        have HP4 := Lib.hid hP4
        have HB4 := Lib.hid (show ckB f (plL l ((disp f l).set kn (0, false))) = 0 by unfold ckB; rw [if_pos HK.out.1, if_pos (by rw [HL4.out]; omega)]; exact pl_ck_set (cl l) l kn (sg0 f) 0 HK.out.2.2.2.2)
        clear hR6 hP4 hL4
        go_wp2_with fail
        refine (Read_ok f a4 (plL l ((disp f l).set kn (0, false))) n c4 _ HL4.out HP4.out (HT.out.later g6) HB4.out).mono ?_
        rintro e w7 ⟨v, rfl, hR7, hG7⟩
        have g7 : G w w7 := g6.trans hG7
        rcases hR7.cells inE_len with ⟨_, h0⟩ | ⟨g8, c8, rfl, _, hcap8, _, hc8⟩
        · have hx := HX.out
          unfold disp at h0
          rw [h0] at hx; simp at hx
        have hx8 := HX.out
        have y0 := (hc8 kn x hx8 0 _ rfl).1
        rw [Nat.mul_one, Nat.add_zero] at y0
        rw [rdL_len, HL4.out] at hcap8 ⊢
        obtain ⟨x0', x1', x2', x3', x4', x5'⟩ := (FC.out kn _ HP.out).later g7
        dsimp only at x0' x1' x2' x3' x4' x5'
        clear hR7 hc8 hx8 x0 x1 x2 x3 x4 x5 z0 z1 z0f z1f
        go_wp2_with fail
        go_big_region
        all_goals
          go_wp2_with fail
          go_ret
          exact ⟨by first | rfl | simp, g7.trans (by (repeat' (first | (with_reducible exact G.refl _) | (with_reducible assumption) | (with_reducible refine G.drewN ?_ _) | (with_reducible refine G.drew ?_) | (with_reducible refine G.alloc ?_ _) | (with_reducible refine G.setCell ?_ (by first | (with_reducible exact Nat.le_refl _) | (simp; done) | (simp; omega) | omega) _) | (with_reducible refine G.trans ?_ (by assumption)))))⟩
    · have k2 : (sh == 0) = false := beq_false_of_ne esh
      have k3 : (sh != 0) = true := by simp [bne, k2]
      clear esh
      go_wp2_with fail
      go_ret
      exact ⟨by first | rfl | simp, by first | exact g3 | (repeat' (first | (with_reducible exact G.refl _) | (with_reducible assumption) | (with_reducible refine G.drewN ?_ _) | (with_reducible refine G.drew ?_) | (with_reducible refine G.alloc ?_ _) | (with_reducible refine G.setCell ?_ (by first | (with_reducible exact Nat.le_refl _) | (simp; done) | (simp; omega) | omega) _) | (with_reducible refine G.trans ?_ (by assumption))))⟩
  · obtain ⟨E, hEE⟩ : ∃ z : Int, Hid (ckA f l = z) := ⟨_, rfl⟩
    have e0 : E ≠ 0 := by rw [← hEE.out]; exact hE
    have b3 : (E == 0) = false := beq_false_of_ne e0
    have b4 : (E != 0) = true := by simp [bne, b3]
    clear hE e0
    go_enter Tryd.func6, Tryd.ntmps6
    go_wp2_with fail
    refine (known_any _ (HT.out.later (by (repeat' (first | (with_reducible exact G.refl _) | (with_reducible assumption) | (with_reducible refine G.drewN ?_ _) | (with_reducible refine G.drew ?_) | (with_reducible refine G.alloc ?_ _) | (with_reducible refine G.setCell ?_ (by first | (with_reducible exact Nat.le_refl _) | (simp; done) | (simp; omega) | omega) _) | (with_reducible refine G.trans ?_ (by assumption))))))).mono ?_
    rintro e w1 ⟨rfl, hG1⟩
    have g1 : G w w1 := by (repeat' (first | (with_reducible exact G.refl _) | (with_reducible assumption) | (with_reducible refine G.drewN ?_ _) | (with_reducible refine G.drew ?_) | (with_reducible refine G.alloc ?_ _) | (with_reducible refine G.setCell ?_ (by first | (with_reducible exact Nat.le_refl _) | (simp; done) | (simp; omega) | omega) _) | (with_reducible refine G.trans ?_ (by assumption))))
    go_wp2_with fail
    refine (rCheck_any f a l n c _ hn.out (by omega) (H1.out.later g1)).mono ?_
    rintro e w2 ⟨rfl, hG2⟩
    rw [hEE.out]
    have g2 : G w w2 := g1.trans hG2
    go_wp2_with fail
    refine (known_any _ (HT.out.later g2)).mono ?_
    rintro e w3 ⟨rfl, hG3⟩
    go_wp2_with fail
    go_ret
    exact ⟨by first | rfl | simp, g2.trans hG3⟩

/-! ### the row and the card -/
open Go.ChangeShapes Go.WideShapes Go.ChangeAt Go.RowKit
set_option maxRecDepth 100000 in
theorem accidentalNeeded_lifted (os : Os) (started : os.Started) (H : Type) (enc : TypeId × Value → H) :
    ReturnsInHanded {} Tryd.checked os 6 .any (fun w args => (Rows.accidentalNeededSpec.pre enc Tryd.prog Tryd.f6 [] false w args ∧ laidMetH Tryd.prog laidL w) ∧ sizedMet enc Tryd.prog Tryd.f6 (OpenSpec.ofChange Rows.accidentalNeededSpec) false w args)
      (Rows.accidentalNeededSpec.post enc Tryd.prog Tryd.f6 false true false false) := by
  refine returnsInHanded_of_change_and (C := Tryd.checked) (X := fun w _ => laidMetH Tryd.prog laidL w) (fun _ _ _ hh h => h.of_heap hh) own started (by kernel_rfl) Tryd.func6
    (ChangeSpec.witness_shaped (enc := enc) (C := Tryd.checked) (os := os) (X := fun w _ => laidMetH Tryd.prog laidL w) false (World.laidAll Tryd.prog os laidL) #[.int .i64 0, .slice none 0 0, .int .u8 0] 8 (World.laidAll_os _ _ _) (shapedL os) (by kernel_rfl) (by kernel_rfl) (by kernel_rfl) (laid_met os _)) ?_
  intro W base args ds gs before hval0 hW _ _ hL _
  have hval : ∀ (j : Nat) t v, Tryd.f6.params[j]? = some t → args[j]? = some v → Value.okWide Tryd.prog W .any base t v := hval0
  have hW' := hW
  obtain ⟨p, q, hA0, hV, rfl, hfz, hnd⟩ := hW
  have hA : DataW.TrodAll enc Tryd.prog W 0 (fun _ => true) true Tryd.f6.params.toList args.toList ds p := hA0
  rw [Tryd.params6] at hA hval
  obtain ⟨v0, vs0, d0, ds0, p0, q0, hargs, rfl, rfl, h0, r0⟩ := trodAll_cons hA
  obtain ⟨v1, vs1, d1, ds1, p1, q1, rfl, rfl, rfl, h1, r1⟩ := trodAll_cons r0
  obtain ⟨v2, vs2, d2, ds2, p2, q2, rfl, rfl, rfl, h2, r2⟩ := trodAll_cons r1
  obtain ⟨rfl, rfl, rfl⟩ := trodAll_nil r2
  obtain rfl : args = #[v0, v1, v2] := by cases args; simp_all
  obtain ⟨rfl, rfl⟩ := trodVars_none hV
  obtain ⟨a0, rfl, rfl, rfl, w0⟩ := open_int Tryd.underlying3 (hval 0 3 v0 rfl rfl) h0
  obtain ⟨bl0, bh0⟩ := bounds_i64 w0
  have keep1 := h1
  obtain ⟨a1, cap1, l1, rfl, lc1, mc1, la1, wf1, lz1⟩ := open_nsArg (hval 1 22 v1 rfl rfl) h1
  obtain ⟨a2, rfl, rfl, rfl, w2⟩ := open_int Tryd.underlying5 (hval 2 5 v2 rfl rfl) h2
  obtain ⟨bl2, bh2⟩ := bounds_u8 w2
  clear hA0 hval0
  simp only [List.append_nil] at hW'
  have hlt1 : ∀ x ∈ p1, x.block < W.heap.size := fun x hx => by have := hW'.lt x (by simp [hx]); simpa using this
  refine (needed_walk a0 a1 l1 cap1 a2 W bl0 bh0 lc1 mc1 la1 lz1 bl2 bh2  (tab_of_laid hL)).mono fun e W' ⟨he, hg⟩ => ?_
  subst he
  exact ⟨_, rfl, _, _, _, [], ([] ++ (p1 ++ ([] ++ []))), [], hW', (trodAll_cons_mk (shut_bool Tryd.underlying4 _) trodAll_mk0), (trodAll_cons_mk (shut_int Tryd.underlying3 w0) (trodAll_cons_mk (Below.trod (by kernel_rfl) (by kernel_rfl) (of_decide_eq_true (by kernel_rfl)) keep1 hg hlt1) (trodAll_cons_mk (shut_int Tryd.underlying5 w2) trodAll_mk0))), rfl, Below.frame hg _, fun h => by cases h⟩

theorem accidentalNeeded_holds : Rows.AccidentalNeededSaid :=
  OpenClaim.holds_of_wide 6 Tryd.f6 rfl rfl rfl rfl rfl rfl rfl ⟨rfl, rfl, rfl, rfl, rfl⟩ rfl rfl rfl rfl rfl (by kernel_rfl) Tryd.func6 (by kernel_rfl)
    (of_decide_eq_true (by kernel_rfl)) (by unfold Func.isWrapper; first | (rw [if_pos (by decide +kernel)]; kernel_rfl) | (rw [if_neg (by decide +kernel)]; exact ⟨rfl, rfl⟩))
    (fun os started H enc _ => accidentalNeeded_lifted os started H enc)

theorem accidentalNeeded_card : Rows.AccidentalNeededCardSaid :=
  Claim7.holds_tied_plain_at .later [] [.data] true (true, "4264632c309685b5b10934852733a39ae7af05b3fbb51cbce9b1665c55e2b979") false
    accidentalNeeded_holds (fun _ h => by cases h) (by kernel_rfl) (fun _ h => by cases h) accidentalNeeded_row_tie rfl ⟨rfl, rfl⟩ (by kernel_rfl) rfl
    (fun f fn hf hfn => by
      obtain rfl : f = 6 := Option.some.inj ((show Tryd.prog.funcNamed "hemiola/hemiolalaw10.AccidentalNeeded" = some 6 by kernel_rfl).symm.trans hf) |>.symm
      obtain rfl : fn = Tryd.f6 := (Option.some.inj (Tryd.func6.symm.trans hfn)).symm
      exact ⟨by kernel_rfl, fun j t ht => by
        rw [Tryd.params6] at ht
        have hm : t ∈ [3, 22, 5] := by simpa using Array.mem_of_getElem? ht
        have hall : ([3, 22, 5].all fun u => !Tryd.prog.wantsStandIn u) = true := by kernel_rfl
        exact (show Tryd.prog.wantsStandIn t = false by simpa using List.all_eq_true.1 hall t hm)⟩)
    (by kernel_rfl)
#print axioms accidentalNeeded_card
end Go.Proofs.YtghlecocnflbnaaDoor
