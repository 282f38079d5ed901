import Derived.Test.YtnakfeamimeioaaDoorB3
/-! Best of the reference. -/
namespace Go.Proofs.YtnakfeamimeioaaDoor
open Go.RowKit
attribute [local go_sem] World.cell?_alloc_some
set_option maxRecDepth 100000 in
set_option maxHeartbeats 6400000 in
theorem rBest_any (a b : Option Addr) (cs : List Int) (l : List Pt) (c1 c2 : Nat) (w : World) (hl : cs.length ≤ 9) (hl2 : l.length ≤ 20) (h1 : IntsAt w a cs) (h2 : PitsAt w b l) :
    Calls Tryd.prog 28 #[.slice a cs.length c1, .slice b l.length c2] w fun e w' => e = .returned (.tuple #[.int .i64 (if bkE cs l = 0 then bst (fun c => lnS c l) cs else 0), .int .i64 (bkE cs l)]) ∧ G w w' := by
  have H1 := Lib.hid h1
  have H2 := Lib.hid h2
  have HL := Lib.hid hl
  have HL2 := Lib.hid hl2
  obtain ⟨f, hf⟩ : ∃ f : Int → Int, Hid (f = fun c => lnS c l) := ⟨_, rfl⟩
  rw [← hf.out]
  have HFB := Lib.hid (show ∀ c, lnS c l = f c by intro c; rw [hf.out])
  clear h1 h2 hf
  obtain ⟨R, hR⟩ : ∃ z : Int, Hid (z = bkE cs l) := ⟨_, rfl⟩
  rw [← hR.out]
  obtain ⟨V, hV⟩ : ∃ z : Int, Hid (z = if R = 0 then bst f cs else 0) := ⟨_, rfl⟩
  rw [← hV.out]
  by_cases h0 : cs.length = 0
  · have hR2 : R = 4 := hR.out.trans (if_pos (List.length_eq_zero_iff.1 h0))
    have hV2 : V = 0 := by rw [hV.out, if_neg (by omega)]
    rw [hR2, hV2, h0]
    go_enter Tryd.func28, Tryd.ntmps28
    go_wp2_with fail
    go_returns
    exact ⟨rfl, by (repeat' (first | (with_reducible exact G.refl _) | (with_reducible assumption) | (with_reducible refine G.drewN ?_ _) | (with_reducible refine G.drew ?_) | (with_reducible refine G.alloc ?_ _) | (with_reducible refine G.setCell ?_ (by first | (with_reducible exact Nat.le_refl _) | (simp; done) | (simp; omega) | omega) _) | (with_reducible refine G.trans ?_ (by assumption))))⟩
  · have hne : cs ≠ [] := fun e => h0 (by rw [e]; rfl)
    have HN := Lib.hid hne
    have hk : ((cs.length : Int) == 0) = false := beq_false_of_ne (by omega)
    have hk2 : ((l.length : Int) ≤ 20) := by omega
    have hk3 : (1 : Int) ≤ (cs.length : Int) := by omega
    rcases H1.out with hz | ⟨bl, o, rfl, fc⟩
    · exact absurd hz hne
    have FC := Lib.hid fc
    clear fc h0 hne
    go_enter Tryd.func28, Tryd.ntmps28
    go_wp2_with fail
    go_loopg [6] cs.length (fun k x wr => ∃ i : Nat, x = .int .i64 i ∧ k = cs.length - i ∧ i ≤ cs.length ∧ Hid (∀ c ∈ cs.take i, Cf c) ∧ G w wr)
    case atStart => exact ⟨0, rfl, by omega, by omega, Lib.hid (by simp), by (repeat' (first | (with_reducible exact G.refl _) | (with_reducible assumption) | (with_reducible refine G.drewN ?_ _) | (with_reducible refine G.drew ?_) | (with_reducible refine G.alloc ?_ _) | (with_reducible refine G.setCell ?_ (by first | (with_reducible exact Nat.le_refl _) | (simp; done) | (simp; omega) | omega) _) | (with_reducible refine G.trans ?_ (by assumption))))⟩
    case round =>
      obtain ⟨i, rfl, hg, hi, hA, gr⟩ := hrel
      have HG := Lib.hid hg
      clear hg
      by_cases hin : i < cs.length
      · obtain ⟨c, hc⟩ : ∃ c, cs[i]? = some c := ⟨cs[i], List.getElem?_eq_getElem hin⟩
        have x0 := gr.at (FC.out i c hc)
        have HCI := Lib.hid hc
        have b1 : (0 : Int) ≤ (i : Int) := by omega
        have b2 : (i : Int) < (cs.length : Int) := by omega
        have q1 := IntWalk.i64_in ((i : Int) + 1) (by omega)
        clear hc
        by_cases hcf : Cf c
        · have HCF := Lib.hid hcf
          clear hcf
          go_wp2_with fail
          refine (rValid_any c _).mono ?_
          rintro e w2 ⟨rfl, rfl⟩
          rw [decide_eq_true HCF.out]
          go_wp2_with fail
          go_roundg (cs.length - (i + 1))
          case measure => have := HG.out; omega
          case rel => exact ⟨i + 1, by first | rfl | simp, rfl, by omega, Lib.hid (all_take_next hA.out HCI.out HCF.out), by (repeat' (first | (with_reducible exact G.refl _) | (with_reducible assumption) | (with_reducible refine G.drewN ?_ _) | (with_reducible refine G.drew ?_) | (with_reducible refine G.alloc ?_ _) | (with_reducible refine G.setCell ?_ (by first | (with_reducible exact Nat.le_refl _) | (simp; done) | (simp; omega) | omega) _) | (with_reducible refine G.trans ?_ (by assumption))))⟩
        · have HCF := Lib.hid hcf
          have HR := Lib.hid (show R = 11 from hR.out.trans (bkE_clef (List.mem_of_getElem? HCI.out) hcf))
          have HV := Lib.hid (show V = 0 by rw [hV.out, if_neg (by have := HR.out; omega)])
          clear hcf
          go_wp2_with fail
          refine (rValid_any c _).mono ?_
          rintro e w2 ⟨rfl, rfl⟩
          rw [decide_eq_false HCF.out]
          go_wp2_with fail
          go_returns
          exact ⟨by rw [HR.out, HV.out]; rfl, by (repeat' (first | (with_reducible exact G.refl _) | (with_reducible assumption) | (with_reducible refine G.drewN ?_ _) | (with_reducible refine G.drew ?_) | (with_reducible refine G.alloc ?_ _) | (with_reducible refine G.setCell ?_ (by first | (with_reducible exact Nat.le_refl _) | (simp; done) | (simp; omega) | omega) _) | (with_reducible refine G.trans ?_ (by assumption))))⟩
      · have hii : i = cs.length := by omega
        subst hii
        have HAll := Lib.hid (show ∀ c ∈ cs, Cf c by have := hA.out; rwa [List.take_length] at this)
        clear hA hin
        go_wp2_with fail
        have gw : G w wr := gr
        go_loopg [7] l.length (fun k x wr => ∃ i : Nat, x = .int .i64 i ∧ k = l.length - i ∧ i ≤ l.length ∧ Hid (∀ p ∈ l.take i, OkP p) ∧ G w wr)
        case atStart => exact ⟨0, rfl, by omega, by omega, Lib.hid (by simp), gw⟩
        case round =>
          obtain ⟨i, rfl, hg2, hi2, hA2, gr2⟩ := hrel
          have HG2 := Lib.hid hg2
          clear hg2
          by_cases hin : i < l.length
          · obtain ⟨⟨s, t, u⟩, hp⟩ : ∃ c, l[i]? = some c := ⟨l[i], List.getElem?_eq_getElem hin⟩
            rcases H2.out with hz | ⟨b2', o2, rfl, fp⟩
            · rw [hz] at hin; exact absurd hin (by simp)
            obtain ⟨x0', x1', x2'⟩ := fp i _ hp
            have x0 := gr2.at x0'
            have x1 := gr2.at x1'
            have x2 := gr2.at x2'
            have HCI := Lib.hid hp
            have b1 : (0 : Int) ≤ (i : Int) := by omega
            have b2 : (i : Int) < (l.length : Int) := by omega
            have q1 := IntWalk.i64_in ((i : Int) + 1) (by omega)
            clear hp fp x0' x1' x2'
            by_cases hcf : Ok s t u
            · have HCF := Lib.hid hcf
              clear hcf
              go_wp2_with fail
              refine (rExists_any s t u _).mono ?_
              rintro e w2 ⟨rfl, hG2⟩
              rw [decide_eq_true HCF.out]
              go_wp2_with fail
              go_roundg (l.length - (i + 1))
              case measure => have := HG2.out; omega
              case rel => exact ⟨i + 1, by first | rfl | simp, rfl, by omega, Lib.hid (all_take_next hA2.out HCI.out HCF.out), by (repeat' (first | (with_reducible exact G.refl _) | (with_reducible assumption) | (with_reducible refine G.drewN ?_ _) | (with_reducible refine G.drew ?_) | (with_reducible refine G.alloc ?_ _) | (with_reducible refine G.setCell ?_ (by first | (with_reducible exact Nat.le_refl _) | (simp; done) | (simp; omega) | omega) _) | (with_reducible refine G.trans ?_ (by assumption))))⟩
            · have HCF := Lib.hid hcf
              have HR := Lib.hid (show R = 18 from hR.out.trans (bkE_pit HN.out HAll.out (List.mem_of_getElem? HCI.out) hcf))
              have HV := Lib.hid (show V = 0 by rw [hV.out, if_neg (by have := HR.out; omega)])
              clear hcf
              go_wp2_with fail
              refine (rExists_any s t u _).mono ?_
              rintro e w2 ⟨rfl, hG2⟩
              rw [decide_eq_false HCF.out]
              go_wp2_with fail
              go_returns
              exact ⟨by rw [HR.out, HV.out]; rfl, by (repeat' (first | (with_reducible exact G.refl _) | (with_reducible assumption) | (with_reducible refine G.drewN ?_ _) | (with_reducible refine G.drew ?_) | (with_reducible refine G.alloc ?_ _) | (with_reducible refine G.setCell ?_ (by first | (with_reducible exact Nat.le_refl _) | (simp; done) | (simp; omega) | omega) _) | (with_reducible refine G.trans ?_ (by assumption))))⟩
          · have hii : i = l.length := by omega
            subst hii
            have HOK := Lib.hid (show ∀ p ∈ l, OkP p by have := hA2.out; rwa [List.take_length] at this)
            have HR := Lib.hid (show R = 0 from hR.out.trans (bkE_ok HN.out HAll.out HOK.out))
            have HV := Lib.hid (show V = bst f cs by rw [hV.out, if_pos HR.out])
            obtain ⟨d, hd⟩ : ∃ d, cs[0]? = some d := ⟨cs[0]'(by omega), List.getElem?_eq_getElem (by omega)⟩
            have x0 := gr2.at (FC.out 0 d hd)
            rw [Nat.add_zero] at x0
            have HB0 := Lib.hid (show d = bst f (cs.take 1) by
              rw [bst_next hd]
              simp [bst, stepB])
            have gw2 : G w wr := gr2
            clear hd hA2
            go_wp2_with fail
            go_loopg [8, 9] (cs.length - 1) (fun k y x wr => ∃ (i : Nat) (B : Int), y = .int .i64 B ∧ x = .int .i64 i ∧ k = cs.length - i ∧ 1 ≤ i ∧ i ≤ cs.length ∧ Hid (B = bst f (cs.take i)) ∧ G w wr)
            case atStart => exact ⟨1, d, rfl, rfl, by omega, by omega, by omega, HB0, by first | exact gw2 | (repeat' (first | (with_reducible exact G.refl _) | (with_reducible assumption) | (with_reducible refine G.drewN ?_ _) | (with_reducible refine G.drew ?_) | (with_reducible refine G.alloc ?_ _) | (with_reducible refine G.setCell ?_ (by first | (with_reducible exact Nat.le_refl _) | (simp; done) | (simp; omega) | omega) _) | (with_reducible refine G.trans ?_ (by assumption))))⟩
            case round =>
              clear x0
              obtain ⟨i, B, rfl, rfl, hg3, hi1, hi3, hB, gr3⟩ := hrel
              have HG3 := Lib.hid hg3
              clear hg3
              by_cases hin : i < cs.length
              · obtain ⟨c, hc⟩ : ∃ c, cs[i]? = some c := ⟨cs[i], List.getElem?_eq_getElem hin⟩
                have HCI := Lib.hid hc
                have HC := Lib.hid (HAll.out c (List.mem_of_getElem? hc))
                have hBc : Cf B ∧ B ≠ 0 := by
                  rcases bst_inv (f := f) HAll.out i (by omega) with ⟨h0, _⟩ | ⟨_, hb, _, _⟩
                  · omega
                  · rw [← hB.out] at hb; exact ⟨hb, by unfold Cf at hb; omega⟩
                have HBC := Lib.hid hBc
                have x0 := gr3.at (FC.out i c hc)
                have b1 : (0 : Int) ≤ (i : Int) := by omega
                have b2 : (i : Int) < (cs.length : Int) := by omega
                have q1 := IntWalk.i64_in ((i : Int) + 1) (by omega)
                obtain ⟨M, hM⟩ : ∃ z : Int, Hid (z = f c) := ⟨_, rfl⟩
                obtain ⟨N, hN⟩ : ∃ z : Int, Hid (z = f B) := ⟨_, rfl⟩
                clear hc hBc
                by_cases hlt : M < N
                · have HLT := Lib.hid (show B = 0 ∨ f c < f B by rw [← hM.out, ← hN.out]; exact .inr hlt)
                  have k2 : decide (M < N) = true := decide_eq_true hlt
                  clear hlt
                  go_wp2_with fail
                  refine (rLines_any c b l c2 _ HL2.out (H2.out.later gr3) HC.out HOK.out).mono ?_
                  rintro e w5 ⟨rfl, hG5⟩
                  rw [HFB.out, ← hM.out]
                  replace x0 := hG5.at x0
                  go_wp2_with fail
                  refine (rLines_any B b l c2 _ HL2.out (H2.out.later (gr3.trans hG5)) HBC.out.1 HOK.out).mono ?_
                  rintro e w6 ⟨rfl, hG6⟩
                  rw [HFB.out, ← hN.out]
                  replace x0 := hG6.at x0
                  go_wp2_with fail
                  go_roundg (cs.length - (i + 1))
                  case measure => have := HG3.out; omega
                  case rel => exact ⟨i + 1, c, rfl, by first | rfl | simp, rfl, by omega, by omega, Lib.hid (by rw [bst_next HCI.out, ← hB.out]; unfold stepB; rw [if_pos HLT.out]), (gr3.trans hG5).trans hG6⟩
                · have HLT := Lib.hid (show ¬ (B = 0 ∨ f c < f B) by rw [← hM.out, ← hN.out]; exact fun z => z.elim HBC.out.2 hlt)
                  have k2 : decide (M < N) = false := decide_eq_false hlt
                  clear hlt
                  go_wp2_with fail
                  refine (rLines_any c b l c2 _ HL2.out (H2.out.later gr3) HC.out HOK.out).mono ?_
                  rintro e w5 ⟨rfl, hG5⟩
                  rw [HFB.out, ← hM.out]
                  go_wp2_with fail
                  refine (rLines_any B b l c2 _ HL2.out (H2.out.later (gr3.trans hG5)) HBC.out.1 HOK.out).mono ?_
                  rintro e w6 ⟨rfl, hG6⟩
                  rw [HFB.out, ← hN.out]
                  go_wp2_with fail
                  go_roundg (cs.length - (i + 1))
                  case measure => have := HG3.out; omega
                  case rel => exact ⟨i + 1, B, rfl, by first | rfl | simp, rfl, by omega, by omega, Lib.hid (by rw [bst_next HCI.out, ← hB.out]; unfold stepB; rw [if_neg HLT.out]), (gr3.trans hG5).trans hG6⟩
              · have hii : i = cs.length := by omega
                have HVB := Lib.hid (show V = B by rw [HV.out, hB.out, hii, List.take_length])
                subst hii
                go_wp2_with fail
                go_returns
                exact ⟨by rw [HR.out, HVB.out]; rfl, by (repeat' (first | (with_reducible exact G.refl _) | (with_reducible assumption) | (with_reducible refine G.drewN ?_ _) | (with_reducible refine G.drew ?_) | (with_reducible refine G.alloc ?_ _) | (with_reducible refine G.setCell ?_ (by first | (with_reducible exact Nat.le_refl _) | (simp; done) | (simp; omega) | omega) _) | (with_reducible refine G.trans ?_ (by assumption))))⟩
end Go.Proofs.YtnakfeamimeioaaDoor
