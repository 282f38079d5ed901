/- AccidentalBefore: for any key signature, any list of up to 30 notes and any tick, what is displayed before the tick is the same without the notes from this tick on; the arguments read as before; the table that the row lists is tied to the program text; no further condition. -/
import Derived.Test.YtghlecocnflbnaaDoorKnown
import Derived.Test.YtghlecocnflbnaaDoorLaid
import Derived.Test.YtghlecocnflbnaaDoorA7
import Derived.Test.YtghlecocnflbnaaDoorR3
import Derived.Test.YtghlecocnflbnaaDoorR5
namespace Go.Proofs.YtghlecocnflbnaaDoor
open Go.RowKit Go.ChangeShapes Go.WideShapes
attribute [local go_sem] World.cell?_alloc_some

set_option maxRecDepth 100000 in
set_option maxHeartbeats 12800000 in
theorem before_walk (f : Int) (a : Option Addr) (l : List Nt) (c : Nat) (b : Int) (w : World) (_ : -9223372036854775808 ≤ f) (_ : f ≤ 9223372036854775807) (hc1 : l.length ≤ c) (_ : c ≤ maxLen) (h1 : NtsAt w a l) (_ : a = none → c = 0) (_ : -9223372036854775808 ≤ b) (_ : b ≤ 9223372036854775807) (hT : Tab w) :
    Calls Tryd.prog 10 #[.int .i64 f, .slice a l.length c, .int .i64 b] w fun e w' => e = .returned (.bool true) ∧ G w w' := by
  have HT := Lib.hid hT
  have H1 := Lib.hid h1
  clear hT h1
  obtain ⟨n, hn⟩ : ∃ z : Nat, Hid (l.length = z) := ⟨_, rfl⟩
  rw [hn.out] at hc1 ⊢
  by_cases h30 : 30 < (n : Int)
  · go_enter Tryd.func10, Tryd.ntmps10
    go_wp2_with fail
    refine (known_any _ (HT.out.later (by (repeat' (first | (with_reducible exact G.refl _) | (with_reducible assumption) | (with_reducible refine G.drewN ?_ _) | (with_reducible refine G.drew ?_) | (with_reducible refine G.alloc ?_ _) | (with_reducible refine G.setCell ?_ (by first | (with_reducible exact Nat.le_refl _) | (simp; done) | (simp; omega) | omega) _) | (with_reducible refine G.trans ?_ (by assumption))))))).mono ?_
    rintro e w1 ⟨rfl, hG1⟩
    have g1 : G w w1 := by (repeat' (first | (with_reducible exact G.refl _) | (with_reducible assumption) | (with_reducible refine G.drewN ?_ _) | (with_reducible refine G.drew ?_) | (with_reducible refine G.alloc ?_ _) | (with_reducible refine G.setCell ?_ (by first | (with_reducible exact Nat.le_refl _) | (simp; done) | (simp; omega) | omega) _) | (with_reducible refine G.trans ?_ (by assumption))))
    go_wp2_with fail
    refine (known_any _ (HT.out.later g1)).mono ?_
    rintro e w2 ⟨rfl, hG2⟩
    go_wp2_with fail
    go_ret
    exact ⟨by first | rfl | simp, g1.trans hG2⟩
  have hn2 : n ≤ 30 := by omega
  by_cases hE : ckA f l = 0
  · have HE := Lib.hid hE
    have HK := Lib.hid (ckA_ok hE)
    have hL : Hid ((disp f l).length = n) := Lib.hid (by unfold disp; rw [dsM_len]; exact hn.out)
    clear hE
    go_enter Tryd.func10, Tryd.ntmps10
    go_wp2_with fail
    refine (known_any _ (HT.out.later (by (repeat' (first | (with_reducible exact G.refl _) | (with_reducible assumption) | (with_reducible refine G.drewN ?_ _) | (with_reducible refine G.drew ?_) | (with_reducible refine G.alloc ?_ _) | (with_reducible refine G.setCell ?_ (by first | (with_reducible exact Nat.le_refl _) | (simp; done) | (simp; omega) | omega) _) | (with_reducible refine G.trans ?_ (by assumption))))))).mono ?_
    rintro e w1 ⟨rfl, hG1⟩
    have g1' : G w w1 := by (repeat' (first | (with_reducible exact G.refl _) | (with_reducible assumption) | (with_reducible refine G.drewN ?_ _) | (with_reducible refine G.drew ?_) | (with_reducible refine G.alloc ?_ _) | (with_reducible refine G.setCell ?_ (by first | (with_reducible exact Nat.le_refl _) | (simp; done) | (simp; omega) | omega) _) | (with_reducible refine G.trans ?_ (by assumption))))
    go_wp2_with fail
    refine (rCheck_any f a l n c _ hn.out (by omega) (H1.out.later g1')).mono ?_
    rintro e w0 ⟨rfl, hG0⟩
    rw [HE.out]
    have g1 : G w w0 := g1'.trans hG0
    clear g1' hG1 hG0
    go_wp2_with fail
    go_loopg [7] n (fun q x wr => ∃ i : Nat, x = .int .i64 i ∧ q = n - i ∧ i ≤ n ∧ Hid (∀ y ∈ l.take i, y.t < b) ∧ G w wr)
    case atStart => exact ⟨0, rfl, by omega, by omega, Lib.hid (by simp), g1⟩
    case round =>
      obtain ⟨i, rfl, hq, hi, HTK, gw⟩ := hrel
      have HQ := Lib.hid hq
      have b1 : (0 : Int) ≤ (i : Int) := by omega
      have hic : (i : Int) ≤ (c : Int) := by omega
      clear hq
      by_cases hin : i < n
      · obtain ⟨⟨t, s, al, o, hd, sh⟩, hp⟩ : ∃ z, l[i]? = some z := ⟨l[i]'(by have := hn.out; omega), List.getElem?_eq_getElem (by have := hn.out; omega)⟩
        rcases H1.out with hz | ⟨bl, of, rfl, fc⟩
        · rw [hz] at hp; simp at hp
        obtain ⟨x0, _, _, _, _, _⟩ := (fc i _ hp).later gw
        dsimp only at x0
        have b2 : (i : Int) < (n : Int) := by omega
        have q1 := IntWalk.i64_in ((i : Int) + 1) (by omega)
        by_cases ht : t < b
        · have HTK2 := Lib.hid (show ∀ y ∈ l.take (i + 1), y.t < b by
            intro y hy
            rw [List.take_add_one, hp] at hy
            rcases List.mem_append.1 hy with hy | hy
            · exact HTK.out y hy
            · simp at hy; subst hy; exact ht)
          clear fc hp
          go_wp2_with fail
          go_roundg (n - (i + 1))
          case measure => have := HQ.out; omega
          case rel => exact ⟨i + 1, by first | rfl | simp, rfl, by omega, HTK2, by (repeat' (first | (with_reducible exact G.refl _) | (with_reducible assumption) | (with_reducible refine G.drewN ?_ _) | (with_reducible refine G.drew ?_) | (with_reducible refine G.alloc ?_ _) | (with_reducible refine G.setCell ?_ (by first | (with_reducible exact Nat.le_refl _) | (simp; done) | (simp; omega) | omega) _) | (with_reducible refine G.trans ?_ (by assumption))))⟩
        · have HNX := Lib.hid (show ∀ y, l[i]? = some y → b ≤ y.t by
            intro y hy
            rw [hp] at hy; rw [← Option.some.inj hy]; show b ≤ t; omega)
          clear fc hp
          have HT1 := Lib.hid (show ckA f (l.take i) = 0 by unfold ckA; rw [if_pos HK.out.1, if_pos (by rw [List.length_take]; omega)]; exact ckL_take l i 0 HK.out.2.2.2.2)
          have HLT := Lib.hid (show (l.take i).length = i by rw [List.length_take]; have := hn.out; omega)
          have HDT := Lib.hid (show disp f (l.take i) = (disp f l).take i from early HK.out.2.2.2.1 HTK.out HNX.out (sg0 f))
          have hLD : Hid ((disp f (l.take i)).length = i) := Lib.hid (by rw [HDT.out, List.length_take]; have := hL.out; omega)
          clear HTK HNX
          go_wp2_with fail
          refine (own_any _ l n c _ hn.out (by omega) (H1.out.later gw)).mono ?_
          rintro e w2 ⟨v, rfl, hR, hG2⟩
          have g2 : G w w2 := gw.trans hG2
          obtain ⟨a2, c2, rfl, hN2⟩ := hR.nts
          rw [hn.out]
          clear hR
          go_wp2_with fail
          refine (Display_ok f a2 l n c2 _ hn.out hN2 (HT.out.later g2) HE.out).mono ?_
          rintro e w3 ⟨v, rfl, hR3, hG3⟩
          have g3 : G w w3 := g2.trans hG3
          obtain ⟨a3, c3, rfl, hM3⟩ := Row.mks hR3
          rw [hL.out]
          have HM3 := Lib.hid hM3
          clear hR3 hM3 hN2
          go_wp2_with fail
          refine (own_any _ (l.take i) i c _ HLT.out (by omega) ((H1.out.take i).later g3)).mono ?_
          rintro e w4 ⟨v, rfl, hR, hG4⟩
          have g4 : G w w4 := g3.trans hG4
          obtain ⟨a4, c4, rfl, hN4⟩ := hR.nts
          rw [HLT.out]
          clear hR
          go_wp2_with fail
          refine (Display_ok f a4 (l.take i) i c4 _ HLT.out hN4 (HT.out.later g4) HT1.out).mono ?_
          rintro e w5 ⟨v, rfl, hR5, hG5⟩
          have g5 : G w w5 := g4.trans hG5
          obtain ⟨a5, c5, rfl, hM5⟩ := Row.mks hR5
          rw [hLD.out]
          rw [HDT.out] at hM5
          have HM5 := Lib.hid hM5
          have HM3' := Lib.hid (HM3.out.later (hG4.trans hG5))
          clear hR5 hM5 hN4
          go_wp2_with fail
          go_loopg [12] i (fun q x wr => ∃ j : Nat, x = .int .i64 j ∧ q = i - j ∧ j ≤ i ∧ G w5 wr)
          case atStart => exact ⟨0, rfl, by omega, by omega, by (repeat' (first | (with_reducible exact G.refl _) | (with_reducible assumption) | (with_reducible refine G.drewN ?_ _) | (with_reducible refine G.drew ?_) | (with_reducible refine G.alloc ?_ _) | (with_reducible refine G.setCell ?_ (by first | (with_reducible exact Nat.le_refl _) | (simp; done) | (simp; omega) | omega) _) | (with_reducible refine G.trans ?_ (by assumption))))⟩
          case round =>
            obtain ⟨j, rfl, hqj, hj, grj⟩ := hrel
            have HQJ := Lib.hid hqj
            clear hqj
            by_cases hjn : j < i
            · obtain ⟨⟨K, PB⟩, hm⟩ : ∃ z, (disp f l)[j]? = some z := ⟨(disp f l)[j]'(by have := hL.out; omega), List.getElem?_eq_getElem (by have := hL.out; omega)⟩
              have hm2 : ((disp f l).take i)[j]? = some (K, PB) := by rw [List.getElem?_take, if_pos hjn]; exact hm
              rcases HM3'.out with hz | ⟨b3, rfl, f3⟩
              · rw [hz] at hm; simp at hm
              rcases HM5.out with hz | ⟨b5, rfl, f5⟩
              · rw [hz] at hm2; simp at hm2
              obtain ⟨y0, y1⟩ := f3 j _ hm
              obtain ⟨z0, z1⟩ := f5 j _ hm2
              replace y0 := grj.at y0
              replace y1 := grj.at y1
              replace z0 := grj.at z0
              replace z1 := grj.at z1
              dsimp only at y0 y1 z0 z1
              have c1 : (0 : Int) ≤ (j : Int) := by omega
              have c2 : (j : Int) < (i : Int) := by omega
              have c3 : (j : Int) < (n : Int) := by omega
              have qj := IntWalk.i64_in ((j : Int) + 1) (by omega)
              have k1 : (K == K) = true := by simp
              have k2 : (PB == PB) = true := by simp
              clear f3 f5 hm hm2
              go_wp2_with fail
              go_big_region
              all_goals
                go_wp2_with fail
                go_roundg (i - (j + 1))
                case measure => have := HQJ.out; omega
                case rel => exact ⟨j + 1, by first | rfl | simp, rfl, by omega, by (repeat' (first | (with_reducible exact G.refl _) | (with_reducible assumption) | (with_reducible refine G.drewN ?_ _) | (with_reducible refine G.drew ?_) | (with_reducible refine G.alloc ?_ _) | (with_reducible refine G.setCell ?_ (by first | (with_reducible exact Nat.le_refl _) | (simp; done) | (simp; omega) | omega) _) | (with_reducible refine G.trans ?_ (by assumption))))⟩
            · have hjj : j = i := by omega
              subst hjj
              go_wp2_with fail
              go_ret
              exact ⟨by first | rfl | simp, g5.trans (by (repeat' (first | (with_reducible exact G.refl _) | (with_reducible assumption) | (with_reducible refine G.drewN ?_ _) | (with_reducible refine G.drew ?_) | (with_reducible refine G.alloc ?_ _) | (with_reducible refine G.setCell ?_ (by first | (with_reducible exact Nat.le_refl _) | (simp; done) | (simp; omega) | omega) _) | (with_reducible refine G.trans ?_ (by assumption)))))⟩
      · have hii : i = n := by omega
        have HNX := Lib.hid (show ∀ y, l[i]? = some y → b ≤ y.t by
          intro y hy
          have := (List.getElem?_eq_some_iff.1 hy).1
          have := hn.out
          omega)
        have hii2 : ¬ ((i : Int) < (n : Int)) := by omega
        clear hii
        have HT1 := Lib.hid (show ckA f (l.take i) = 0 by unfold ckA; rw [if_pos HK.out.1, if_pos (by rw [List.length_take]; omega)]; exact ckL_take l i 0 HK.out.2.2.2.2)
        have HLT := Lib.hid (show (l.take i).length = i by rw [List.length_take]; have := hn.out; omega)
        have HDT := Lib.hid (show disp f (l.take i) = (disp f l).take i from early HK.out.2.2.2.1 HTK.out HNX.out (sg0 f))
        have hLD : Hid ((disp f (l.take i)).length = i) := Lib.hid (by rw [HDT.out, List.length_take]; have := hL.out; omega)
        clear HTK HNX
        go_wp2_with fail
        refine (own_any _ l n c _ hn.out (by omega) (H1.out.later gw)).mono ?_
        rintro e w2 ⟨v, rfl, hR, hG2⟩
        have g2 : G w w2 := gw.trans hG2
        obtain ⟨a2, c2, rfl, hN2⟩ := hR.nts
        rw [hn.out]
        clear hR
        go_wp2_with fail
        refine (Display_ok f a2 l n c2 _ hn.out hN2 (HT.out.later g2) HE.out).mono ?_
        rintro e w3 ⟨v, rfl, hR3, hG3⟩
        have g3 : G w w3 := g2.trans hG3
        obtain ⟨a3, c3, rfl, hM3⟩ := Row.mks hR3
        rw [hL.out]
        have HM3 := Lib.hid hM3
        clear hR3 hM3 hN2
        go_wp2_with fail
        refine (own_any _ (l.take i) i c _ HLT.out (by omega) ((H1.out.take i).later g3)).mono ?_
        rintro e w4 ⟨v, rfl, hR, hG4⟩
        have g4 : G w w4 := g3.trans hG4
        obtain ⟨a4, c4, rfl, hN4⟩ := hR.nts
        rw [HLT.out]
        clear hR
        go_wp2_with fail
        refine (Display_ok f a4 (l.take i) i c4 _ HLT.out hN4 (HT.out.later g4) HT1.out).mono ?_
        rintro e w5 ⟨v, rfl, hR5, hG5⟩
        have g5 : G w w5 := g4.trans hG5
        obtain ⟨a5, c5, rfl, hM5⟩ := Row.mks hR5
        rw [hLD.out]
        rw [HDT.out] at hM5
        have HM5 := Lib.hid hM5
        have HM3' := Lib.hid (HM3.out.later (hG4.trans hG5))
        clear hR5 hM5 hN4
        go_wp2_with fail
        go_loopg [12] i (fun q x wr => ∃ j : Nat, x = .int .i64 j ∧ q = i - j ∧ j ≤ i ∧ G w5 wr)
        case atStart => exact ⟨0, rfl, by omega, by omega, by (repeat' (first | (with_reducible exact G.refl _) | (with_reducible assumption) | (with_reducible refine G.drewN ?_ _) | (with_reducible refine G.drew ?_) | (with_reducible refine G.alloc ?_ _) | (with_reducible refine G.setCell ?_ (by first | (with_reducible exact Nat.le_refl _) | (simp; done) | (simp; omega) | omega) _) | (with_reducible refine G.trans ?_ (by assumption))))⟩
        case round =>
          obtain ⟨j, rfl, hqj, hj, grj⟩ := hrel
          have HQJ := Lib.hid hqj
          clear hqj
          by_cases hjn : j < i
          · obtain ⟨⟨K, PB⟩, hm⟩ : ∃ z, (disp f l)[j]? = some z := ⟨(disp f l)[j]'(by have := hL.out; omega), List.getElem?_eq_getElem (by have := hL.out; omega)⟩
            have hm2 : ((disp f l).take i)[j]? = some (K, PB) := by rw [List.getElem?_take, if_pos hjn]; exact hm
            rcases HM3'.out with hz | ⟨b3, rfl, f3⟩
            · rw [hz] at hm; simp at hm
            rcases HM5.out with hz | ⟨b5, rfl, f5⟩
            · rw [hz] at hm2; simp at hm2
            obtain ⟨y0, y1⟩ := f3 j _ hm
            obtain ⟨z0, z1⟩ := f5 j _ hm2
            replace y0 := grj.at y0
            replace y1 := grj.at y1
            replace z0 := grj.at z0
            replace z1 := grj.at z1
            dsimp only at y0 y1 z0 z1
            have c1 : (0 : Int) ≤ (j : Int) := by omega
            have c2 : (j : Int) < (i : Int) := by omega
            have c3 : (j : Int) < (n : Int) := by omega
            have qj := IntWalk.i64_in ((j : Int) + 1) (by omega)
            have k1 : (K == K) = true := by simp
            have k2 : (PB == PB) = true := by simp
            clear f3 f5 hm hm2
            go_wp2_with fail
            go_big_region
            all_goals
              go_wp2_with fail
              go_roundg (i - (j + 1))
              case measure => have := HQJ.out; omega
              case rel => exact ⟨j + 1, by first | rfl | simp, rfl, by omega, by (repeat' (first | (with_reducible exact G.refl _) | (with_reducible assumption) | (with_reducible refine G.drewN ?_ _) | (with_reducible refine G.drew ?_) | (with_reducible refine G.alloc ?_ _) | (with_reducible refine G.setCell ?_ (by first | (with_reducible exact Nat.le_refl _) | (simp; done) | (simp; omega) | omega) _) | (with_reducible refine G.trans ?_ (by assumption))))⟩
          · have hjj : j = i := by omega
            subst hjj
            go_wp2_with fail
            go_ret
            exact ⟨by first | rfl | simp, g5.trans (by (repeat' (first | (with_reducible exact G.refl _) | (with_reducible assumption) | (with_reducible refine G.drewN ?_ _) | (with_reducible refine G.drew ?_) | (with_reducible refine G.alloc ?_ _) | (with_reducible refine G.setCell ?_ (by first | (with_reducible exact Nat.le_refl _) | (simp; done) | (simp; omega) | omega) _) | (with_reducible refine G.trans ?_ (by assumption)))))⟩
  · obtain ⟨E, hEE⟩ : ∃ z : Int, Hid (ckA f l = z) := ⟨_, rfl⟩
    have e0 : E ≠ 0 := by rw [← hEE.out]; exact hE
    have b3 : (E == 0) = false := beq_false_of_ne e0
    have b4 : (E != 0) = true := by simp [bne, b3]
    clear hE e0
    go_enter Tryd.func10, Tryd.ntmps10
    go_wp2_with fail
    refine (known_any _ (HT.out.later (by (repeat' (first | (with_reducible exact G.refl _) | (with_reducible assumption) | (with_reducible refine G.drewN ?_ _) | (with_reducible refine G.drew ?_) | (with_reducible refine G.alloc ?_ _) | (with_reducible refine G.setCell ?_ (by first | (with_reducible exact Nat.le_refl _) | (simp; done) | (simp; omega) | omega) _) | (with_reducible refine G.trans ?_ (by assumption))))))).mono ?_
    rintro e w1 ⟨rfl, hG1⟩
    have g1 : G w w1 := by (repeat' (first | (with_reducible exact G.refl _) | (with_reducible assumption) | (with_reducible refine G.drewN ?_ _) | (with_reducible refine G.drew ?_) | (with_reducible refine G.alloc ?_ _) | (with_reducible refine G.setCell ?_ (by first | (with_reducible exact Nat.le_refl _) | (simp; done) | (simp; omega) | omega) _) | (with_reducible refine G.trans ?_ (by assumption))))
    go_wp2_with fail
    refine (rCheck_any f a l n c _ hn.out (by omega) (H1.out.later g1)).mono ?_
    rintro e w2 ⟨rfl, hG2⟩
    rw [hEE.out]
    have g2 : G w w2 := g1.trans hG2
    go_wp2_with fail
    refine (known_any _ (HT.out.later g2)).mono ?_
    rintro e w3 ⟨rfl, hG3⟩
    go_wp2_with fail
    go_ret
    exact ⟨by first | rfl | simp, g2.trans hG3⟩

/-! ### the row and the card -/
open Go.ChangeShapes Go.WideShapes Go.ChangeAt Go.RowKit
set_option maxRecDepth 100000 in
theorem accidentalBefore_lifted (os : Os) (started : os.Started) (H : Type) (enc : TypeId × Value → H) :
    ReturnsInHanded {} Tryd.checked os 10 .any (fun w args => (Rows.accidentalBeforeSpec.pre enc Tryd.prog Tryd.f10 [] false w args ∧ laidMetH Tryd.prog laidL w) ∧ sizedMet enc Tryd.prog Tryd.f10 (OpenSpec.ofChange Rows.accidentalBeforeSpec) false w args)
      (Rows.accidentalBeforeSpec.post enc Tryd.prog Tryd.f10 false true false false) := by
  refine returnsInHanded_of_change_and (C := Tryd.checked) (X := fun w _ => laidMetH Tryd.prog laidL w) (fun _ _ _ hh h => h.of_heap hh) own started (by kernel_rfl) Tryd.func10
    (ChangeSpec.witness_shaped (enc := enc) (C := Tryd.checked) (os := os) (X := fun w _ => laidMetH Tryd.prog laidL w) false (World.laidAll Tryd.prog os laidL) #[.int .i64 0, .slice none 0 0, .int .i64 0] 8 (World.laidAll_os _ _ _) (shapedL os) (by kernel_rfl) (by kernel_rfl) (by kernel_rfl) (laid_met os _)) ?_
  intro W base args ds gs before hval0 hW _ _ hL _
  have hval : ∀ (j : Nat) t v, Tryd.f10.params[j]? = some t → args[j]? = some v → Value.okWide Tryd.prog W .any base t v := hval0
  have hW' := hW
  obtain ⟨p, q, hA0, hV, rfl, hfz, hnd⟩ := hW
  have hA : DataW.TrodAll enc Tryd.prog W 0 (fun _ => true) true Tryd.f10.params.toList args.toList ds p := hA0
  rw [Tryd.params10] at hA hval
  obtain ⟨v0, vs0, d0, ds0, p0, q0, hargs, rfl, rfl, h0, r0⟩ := trodAll_cons hA
  obtain ⟨v1, vs1, d1, ds1, p1, q1, rfl, rfl, rfl, h1, r1⟩ := trodAll_cons r0
  obtain ⟨v2, vs2, d2, ds2, p2, q2, rfl, rfl, rfl, h2, r2⟩ := trodAll_cons r1
  obtain ⟨rfl, rfl, rfl⟩ := trodAll_nil r2
  obtain rfl : args = #[v0, v1, v2] := by cases args; simp_all
  obtain ⟨rfl, rfl⟩ := trodVars_none hV
  obtain ⟨a0, rfl, rfl, rfl, w0⟩ := open_int Tryd.underlying3 (hval 0 3 v0 rfl rfl) h0
  obtain ⟨bl0, bh0⟩ := bounds_i64 w0
  have keep1 := h1
  obtain ⟨a1, cap1, l1, rfl, lc1, mc1, la1, wf1, lz1⟩ := open_nsArg (hval 1 22 v1 rfl rfl) h1
  obtain ⟨a2, rfl, rfl, rfl, w2⟩ := open_int Tryd.underlying3 (hval 2 3 v2 rfl rfl) h2
  obtain ⟨bl2, bh2⟩ := bounds_i64 w2
  clear hA0 hval0
  simp only [List.append_nil] at hW'
  have hlt1 : ∀ x ∈ p1, x.block < W.heap.size := fun x hx => by have := hW'.lt x (by simp [hx]); simpa using this
  refine (before_walk a0 a1 l1 cap1 a2 W bl0 bh0 lc1 mc1 la1 lz1 bl2 bh2  (tab_of_laid hL)).mono fun e W' ⟨he, hg⟩ => ?_
  subst he
  exact ⟨_, rfl, _, _, _, [], ([] ++ (p1 ++ ([] ++ []))), [], hW', (trodAll_cons_mk (shut_bool Tryd.underlying4 _) trodAll_mk0), (trodAll_cons_mk (shut_int Tryd.underlying3 w0) (trodAll_cons_mk (Below.trod (by kernel_rfl) (by kernel_rfl) (of_decide_eq_true (by kernel_rfl)) keep1 hg hlt1) (trodAll_cons_mk (shut_int Tryd.underlying3 w2) trodAll_mk0))), rfl, Below.frame hg _, fun h => by cases h⟩

theorem accidentalBefore_holds : Rows.AccidentalBeforeSaid :=
  OpenClaim.holds_of_wide 10 Tryd.f10 rfl rfl rfl rfl rfl rfl rfl ⟨rfl, rfl, rfl, rfl, rfl⟩ rfl rfl rfl rfl rfl (by kernel_rfl) Tryd.func10 (by kernel_rfl)
    (of_decide_eq_true (by kernel_rfl)) (by unfold Func.isWrapper; first | (rw [if_pos (by decide +kernel)]; kernel_rfl) | (rw [if_neg (by decide +kernel)]; exact ⟨rfl, rfl⟩))
    (fun os started H enc _ => accidentalBefore_lifted os started H enc)

theorem accidentalBefore_card : Rows.AccidentalBeforeCardSaid :=
  Claim7.holds_tied_plain_at .later [] [.data] true (true, "4264632c309685b5b10934852733a39ae7af05b3fbb51cbce9b1665c55e2b979") false
    accidentalBefore_holds (fun _ h => by cases h) (by kernel_rfl) (fun _ h => by cases h) accidentalBefore_row_tie rfl ⟨rfl, rfl⟩ (by kernel_rfl) rfl
    (fun f fn hf hfn => by
      obtain rfl : f = 10 := Option.some.inj ((show Tryd.prog.funcNamed "hemiola/hemiolalaw10.AccidentalBefore" = some 10 by kernel_rfl).symm.trans hf) |>.symm
      obtain rfl : fn = Tryd.f10 := (Option.some.inj (Tryd.func10.symm.trans hfn)).symm
      exact ⟨by kernel_rfl, fun j t ht => by
        rw [Tryd.params10] at ht
        have hm : t ∈ [3, 22, 3] := by simpa using Array.mem_of_getElem? ht
        have hall : ([3, 22, 3].all fun u => !Tryd.prog.wantsStandIn u) = true := by kernel_rfl
        exact (show Tryd.prog.wantsStandIn t = false by simpa using List.all_eq_true.1 hall t hm)⟩)
    (by kernel_rfl)
#print axioms accidentalBefore_card
end Go.Proofs.YtghlecocnflbnaaDoor
