/- IntervalEnharmonics: for every pitch, Enharmonics returns all pitches with the same number in order, or ErrPitch; the arguments read as before; the tables that the row lists are tied to the program text; no further condition. -/
import Derived.Test.YtkooggakngheoaaDoorRBtw
import Derived.Test.YtkooggakngheoaaDoorIv12
import Derived.BigRegion
namespace Go.Proofs.YtkooggakngheoaaDoor
open Go.RowKit
attribute [local go_sem] World.cell?_alloc_some

set_option maxRecDepth 100000 in
set_option maxHeartbeats 3200000 in
theorem enharmonics_walk (s a o : Int) (w : World) (_ : -9223372036854775808 ≤ s) (_ : s ≤ 9223372036854775807) (_ : -9223372036854775808 ≤ a) (_ : a ≤ 9223372036854775807) (_ : -9223372036854775808 ≤ o) (_ : o ≤ 9223372036854775807) (hT : Tab w) :
    Calls Tryd.prog 9 #[.agg #[.int .i64 s, .int .i64 a, .int .i64 o]] w fun e w' => e = .returned (.bool true) ∧ G w w' := by
  have HT := Lib.hid hT
  clear hT
  by_cases h : Ok s a o
  · have HO := Lib.hid h
    have HV := Lib.hid (decide_eq_true h)
    have I1 : Hid (Inr s a o) := Lib.hid h.1
    obtain ⟨n, hn⟩ : ∃ z : Int, Hid (z = ht s a o) := ⟨_, rfl⟩
    have nb : 0 ≤ n ∧ n ≤ 127 := by rw [hn.out]; exact h.2
    obtain ⟨l, hl⟩ : ∃ z : List P3, Hid (z = enh n (alts 5)) := ⟨_, rfl⟩
    have hne : l ≠ [] := by rw [hl.out]; exact enh_ne nb.1 nb.2
    have HL2 := Lib.hid (show allO n 11 = l by rw [hl.out]; exact all_eq nb.1 nb.2)
    have HLE := Lib.hid (show l.length ≤ 5 by rw [hl.out]; have := enh_length n (alts 5); rw [alts_length] at this; exact this)
    have HNB := Lib.hid (show -1000 ≤ n ∧ n ≤ 1000 by omega)
    clear h nb
    go_enter Tryd.func9, Tryd.ntmps9
    go_wp2_with fail
    refine (iEnharmonics_ok s a o _ HO.out (HT.out.hts.later (by (repeat' (first | (with_reducible exact G.refl _) | (with_reducible assumption) | (with_reducible refine G.drewN ?_ _) | (with_reducible refine G.drew ?_) | (with_reducible refine G.alloc ?_ _) | (with_reducible refine G.setCell ?_ (by first | (with_reducible exact Nat.le_refl _) | (simp; done) | (simp; omega) | omega) _) | (with_reducible refine G.trans ?_ (by assumption))))))).mono ?_
    rintro e w1 ⟨v, rfl, hown, hG1⟩
    rw [← hn.out, ← hl.out] at hown
    obtain ⟨y0, y1, y2⟩ := tri_later hG1
    rcases own_cells hown with ⟨_, hq⟩ | ⟨g, cap, rfl, hg, hcap, hcap2, hcells⟩
    · exact absurd hq hne
    have HC := Lib.hid hcells
    clear hcells hown
    go_wp2_with fail
    refine (known_any _ (HT.out.later (by (repeat' (first | (with_reducible exact G.refl _) | (with_reducible assumption) | (with_reducible refine G.drewN ?_ _) | (with_reducible refine G.drew ?_) | (with_reducible refine G.alloc ?_ _) | (with_reducible refine G.setCell ?_ (by first | (with_reducible exact Nat.le_refl _) | (simp; done) | (simp; omega) | omega) _) | (with_reducible refine G.trans ?_ (by assumption))))))).mono ?_
    rintro e w2 ⟨rfl, hG2⟩
    replace y0 := hG2.at y0
    replace y1 := hG2.at y1
    replace y2 := hG2.at y2
    go_wp2_with fail
    refine (rValid_any s a o _).mono ?_
    rintro e w3 ⟨rfl, hG3⟩
    rw [HV.out]
    replace y0 := hG3.at y0
    replace y1 := hG3.at y1
    replace y2 := hG3.at y2
    go_wp2_with fail
    refine (rNumber_any s a o _ I1.out).mono ?_
    rintro e w4 ⟨rfl, hG4⟩
    rw [← hn.out]
    go_wp2_with fail
    refine (rAll_any n _ HNB.out.1 HNB.out.2).mono ?_
    rintro e w5 ⟨v2, rfl, hA⟩
    rw [HL2.out] at hA
    rcases own_cells hA.1 with ⟨_, hq⟩ | ⟨g2, cap2, rfl, hg2, hcap3, hcap4, hcells2⟩
    · exact absurd hq hne
    have HC2 := Lib.hid hcells2
    have gA := hA.2
    have g15 : G w1 w5 := hG2.trans (hG3.trans (hG4.trans gA))
    have gw5 : G w w5 := by (repeat' (first | (with_reducible exact G.refl _) | (with_reducible assumption) | (with_reducible refine G.drewN ?_ _) | (with_reducible refine G.drew ?_) | (with_reducible refine G.alloc ?_ _) | (with_reducible refine G.setCell ?_ (by first | (with_reducible exact Nat.le_refl _) | (simp; done) | (simp; omega) | omega) _) | (with_reducible refine G.trans ?_ (by assumption))))
    clear hcells2 hA y0 y1 y2 hne
    go_wp2_with fail
    go_loopg [6] l.length (fun k i wr => ∃ j : Nat, i = .int .i64 j ∧ k = l.length - j ∧ j ≤ l.length ∧ G w5 wr)
    case atStart => exact ⟨0, rfl, by omega, by omega, G.refl _⟩
    case round =>
      obtain ⟨j, rfl, hgk, j1, gwr⟩ := hrel
      have HGK := Lib.hid hgk
      have hlb := HLE.out
      clear hgk
      by_cases hin : j < l.length
      · obtain ⟨z, hz⟩ : ∃ z, l[j]? = some z := ⟨l[j], List.getElem?_eq_getElem hin⟩
        obtain ⟨c0, c1, c2⟩ := HC.out j z hz
        obtain ⟨d0, d1, d2⟩ := HC2.out j z hz
        have g1r := g15.trans gwr
        replace c0 := g1r.at c0
        replace c1 := g1r.at c1
        replace c2 := g1r.at c2
        replace d0 := gwr.at d0
        replace d1 := gwr.at d1
        replace d2 := gwr.at d2
        rw [Nat.mul_comm] at d0 d1 d2 c0 c1 c2
        clear hz
        obtain ⟨p1, p2, p3⟩ := z
        dsimp only at d0 d1 d2 c0 c1 c2
        go_wp2_with fail
        go_big_region
        all_goals
          go_wp2_with fail
          go_roundg (l.length - (j + 1))
          case measure => have := HGK.out; omega
          case rel => exact ⟨j + 1, by go_num, rfl, by omega, by (repeat' (first | (with_reducible exact G.refl _) | (with_reducible assumption) | (with_reducible refine G.drewN ?_ _) | (with_reducible refine G.drew ?_) | (with_reducible refine G.alloc ?_ _) | (with_reducible refine G.setCell ?_ (by first | (with_reducible exact Nat.le_refl _) | (simp; done) | (simp; omega) | omega) _) | (with_reducible refine G.trans ?_ (by assumption))))⟩
      · obtain rfl : j = l.length := by omega
        go_wp2_with fail
        go_ret
        exact ⟨by first | rfl | simp, gw5.trans gwr⟩
  · have HO := Lib.hid h
    have HV := Lib.hid (decide_eq_false h)
    clear h
    go_enter Tryd.func9, Tryd.ntmps9
    go_wp2_with fail
    refine (iEnharmonics_bad s a o _ HO.out (HT.out.hts.later (by (repeat' (first | (with_reducible exact G.refl _) | (with_reducible assumption) | (with_reducible refine G.drewN ?_ _) | (with_reducible refine G.drew ?_) | (with_reducible refine G.alloc ?_ _) | (with_reducible refine G.setCell ?_ (by first | (with_reducible exact Nat.le_refl _) | (simp; done) | (simp; omega) | omega) _) | (with_reducible refine G.trans ?_ (by assumption))))))).mono ?_
    rintro e w1 ⟨rfl, hG1⟩
    obtain ⟨y0, y1, y2⟩ := tri_later hG1
    go_wp2_with fail
    refine (known_any _ (HT.out.later (by (repeat' (first | (with_reducible exact G.refl _) | (with_reducible assumption) | (with_reducible refine G.drewN ?_ _) | (with_reducible refine G.drew ?_) | (with_reducible refine G.alloc ?_ _) | (with_reducible refine G.setCell ?_ (by first | (with_reducible exact Nat.le_refl _) | (simp; done) | (simp; omega) | omega) _) | (with_reducible refine G.trans ?_ (by assumption))))))).mono ?_
    rintro e w2 ⟨rfl, hG2⟩
    replace y0 := hG2.at y0
    replace y1 := hG2.at y1
    replace y2 := hG2.at y2
    go_wp2_with fail
    refine (rValid_any s a o _).mono ?_
    rintro e w3 ⟨rfl, hG3⟩
    rw [HV.out]
    clear y0 y1 y2
    go_wp2_with fail
    go_ret
    exact ⟨by first | rfl | simp, by (repeat' (first | (with_reducible exact G.refl _) | (with_reducible assumption) | (with_reducible refine G.drewN ?_ _) | (with_reducible refine G.drew ?_) | (with_reducible refine G.alloc ?_ _) | (with_reducible refine G.setCell ?_ (by first | (with_reducible exact Nat.le_refl _) | (simp; done) | (simp; omega) | omega) _) | (with_reducible refine G.trans ?_ (by assumption))))⟩

/-! ### the row and the card -/
open Go.ChangeShapes Go.WideShapes Go.ChangeAt Go.RowKit
set_option maxRecDepth 100000 in
theorem intervalEnharmonics_lifted (os : Os) (started : os.Started) (H : Type) (enc : TypeId × Value → H) :
    ReturnsInHanded {} Tryd.checked os 9 .any (fun w args => (Rows.intervalEnharmonicsSpec.pre enc Tryd.prog Tryd.f9 [] false w args ∧ laidMetH Tryd.prog laidL w) ∧ sizedMet enc Tryd.prog Tryd.f9 (OpenSpec.ofChange Rows.intervalEnharmonicsSpec) false w args)
      (Rows.intervalEnharmonicsSpec.post enc Tryd.prog Tryd.f9 false true false false) := by
  refine returnsInHanded_of_change_and (C := Tryd.checked) (X := fun w _ => laidMetH Tryd.prog laidL w) (fun _ _ _ hh h => h.of_heap hh) own started (by kernel_rfl) Tryd.func9
    (ChangeSpec.witness_shaped (enc := enc) (C := Tryd.checked) (os := os) (X := fun w _ => laidMetH Tryd.prog laidL w) false (World.laidAll Tryd.prog os laidL) #[.agg #[.int .i64 0, .int .i64 0, .int .i64 0]] 8 (World.laidAll_os _ _ _) (shapedL os) (by kernel_rfl) (by kernel_rfl) (by kernel_rfl) (laid_met os _)) ?_
  intro W base args ds gs before hval0 hW _ _ hL _
  have hval : ∀ (j : Nat) t v, Tryd.f9.params[j]? = some t → args[j]? = some v → Value.okWide Tryd.prog W .any base t v := hval0
  have hW' := hW
  obtain ⟨p, q, hA0, hV, rfl, hfz, hnd⟩ := hW
  have hA : DataW.TrodAll enc Tryd.prog W 0 (fun _ => true) true Tryd.f9.params.toList args.toList ds p := hA0
  rw [Tryd.params9] at hA hval
  obtain ⟨v0, vs0, d0, ds0, p0, q0, hargs, rfl, rfl, h0, r0⟩ := trodAll_cons hA
  obtain ⟨rfl, rfl, rfl⟩ := trodAll_nil r0
  obtain rfl : args = #[v0] := by cases args; simp_all
  obtain ⟨rfl, rfl⟩ := trodVars_none hV
  obtain ⟨a0, b0, c0, rfl, rfl, rfl, w0, u0, y0⟩ := open_pitch (hval 0 41 v0 rfl rfl) h0
  obtain ⟨al0, ah0⟩ := bounds_i64 w0
  obtain ⟨bl0, bh0⟩ := bounds_i64 u0
  obtain ⟨cl0, ch0⟩ := bounds_i64 y0
  clear hA0 hval0
  simp only [List.append_nil] at hW'
  refine (enharmonics_walk a0 b0 c0 W al0 ah0 bl0 bh0 cl0 ch0  (tab_of_laid hL)).mono fun e W' ⟨he, hg⟩ => ?_
  subst he
  exact ⟨_, rfl, _, _, _, [], [], [], hW', (trodAll_cons_mk (shut_bool Tryd.underlying4 _) trodAll_mk0), (trodAll_cons_mk (shut_pitch w0 u0 y0) trodAll_mk0), rfl, Below.frame hg _, fun h => by cases h⟩

theorem intervalEnharmonics_holds : Rows.IntervalEnharmonicsSaid :=
  OpenClaim.holds_of_wide 9 Tryd.f9 rfl rfl rfl rfl rfl rfl rfl ⟨rfl, rfl, rfl, rfl, rfl⟩ rfl rfl rfl rfl rfl (by kernel_rfl) Tryd.func9 (by kernel_rfl)
    (of_decide_eq_true (by kernel_rfl)) (by unfold Func.isWrapper; first | (rw [if_pos (by decide +kernel)]; kernel_rfl) | (rw [if_neg (by decide +kernel)]; exact ⟨rfl, rfl⟩))
    (fun os started H enc _ => intervalEnharmonics_lifted os started H enc)

theorem intervalEnharmonics_card : Rows.IntervalEnharmonicsCardSaid :=
  Claim7.holds_tied_plain_at .later [] [.data, .data, .data, .data, .data] true (true, "07eaf8fc6e67b9a0961191b344b017356c7addb51c8f341747d9d4082577b353") false
    intervalEnharmonics_holds (fun _ h => by cases h) (by kernel_rfl) (fun _ h => by cases h) intervalEnharmonics_row_tie rfl ⟨rfl, rfl⟩ (by kernel_rfl) rfl
    (fun f fn hf hfn => by
      obtain rfl : f = 9 := Option.some.inj ((show Tryd.prog.funcNamed "hemiola/hemiolalaw06.IntervalEnharmonics" = some 9 by kernel_rfl).symm.trans hf) |>.symm
      obtain rfl : fn = Tryd.f9 := (Option.some.inj (Tryd.func9.symm.trans hfn)).symm
      exact ⟨by kernel_rfl, fun j t ht => by
        rw [Tryd.params9] at ht
        have hm : t ∈ [41] := by simpa using Array.mem_of_getElem? ht
        have hall : ([41].all fun u => !Tryd.prog.wantsStandIn u) = true := by kernel_rfl
        exact (show Tryd.prog.wantsStandIn t = false by simpa using List.all_eq_true.1 hall t hm)⟩)
    (by kernel_rfl)
#print axioms intervalEnharmonics_card
end Go.Proofs.YtkooggakngheoaaDoor
