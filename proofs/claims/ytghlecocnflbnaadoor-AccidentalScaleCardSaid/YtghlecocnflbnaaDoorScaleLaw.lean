/- AccidentalScale: for any key signature and any list of up to 30 notes whose alterations are those of the key, with Show 0, there are no marks; the arguments read as before; the table that the row lists is tied to the program text; no further condition. -/
import Derived.Test.YtghlecocnflbnaaDoorS1
import Derived.Test.YtghlecocnflbnaaDoorR5
namespace Go.Proofs.YtghlecocnflbnaaDoor
open Go.RowKit Go.ChangeShapes Go.WideShapes
attribute [local go_sem] World.cell?_alloc_some

theorem row_new (w : World) (B : Nat) (hB : w.heap.size = B) : (w.alloc (.cells #[] 54)).ownsRow B 54 6 (.slice (some ⟨B, 0, none⟩) 0 0) 0 [] := by
  subst hB
  refine ⟨rfl, .inr ⟨w.heap.size, 0, #[], rfl, Nat.le_refl _, ?_, Nat.le_refl _, Nat.zero_le _, rfl, rfl⟩⟩
  show (w.heap.push _)[w.heap.size]? = _
  simp
theorem flat_one {l : List Nt} : ∀ u ∈ l.flatMap ntE, u.oneCell' = true := fun u hu => by
  obtain ⟨n, _, h⟩ := List.mem_flatMap.1 hu
  simp only [ntE, List.mem_cons, List.not_mem_nil, or_false] at h
  rcases h with rfl | rfl | rfl | rfl | rfl | rfl <;> rfl

set_option maxRecDepth 100000 in
set_option maxHeartbeats 12800000 in
theorem scale_walk (f : Int) (a : Option Addr) (l : List Nt) (c : Nat) (w : World) (_ : -9223372036854775808 ≤ f) (_ : f ≤ 9223372036854775807) (hlc : l.length ≤ c) (_ : c ≤ maxLen) (h1 : NtsAt w a l) (hcz : a = none → c = 0) (hT : Tab w) :
    Calls Tryd.prog 7 #[.int .i64 f, .slice a l.length c] w fun e w' => e = .returned (.bool true) ∧ G w w' := by
  have HT := Lib.hid hT
  have H1 := Lib.hid h1
  clear hT h1
  obtain ⟨n, hn⟩ : ∃ z : Nat, Hid (l.length = z) := ⟨_, rfl⟩
  rw [hn.out]
  by_cases h30 : 30 < (n : Int)
  · go_enter Tryd.func7, Tryd.ntmps7
    go_wp2_with fail
    refine (known_any _ (HT.out.later (by (repeat' (first | (with_reducible exact G.refl _) | (with_reducible assumption) | (with_reducible refine G.drewN ?_ _) | (with_reducible refine G.drew ?_) | (with_reducible refine G.alloc ?_ _) | (with_reducible refine G.setCell ?_ (by first | (with_reducible exact Nat.le_refl _) | (simp; done) | (simp; omega) | omega) _) | (with_reducible refine G.trans ?_ (by assumption))))))).mono ?_
    rintro e w1 ⟨rfl, hG1⟩
    have g1 : G w w1 := by (repeat' (first | (with_reducible exact G.refl _) | (with_reducible assumption) | (with_reducible refine G.drewN ?_ _) | (with_reducible refine G.drew ?_) | (with_reducible refine G.alloc ?_ _) | (with_reducible refine G.setCell ?_ (by first | (with_reducible exact Nat.le_refl _) | (simp; done) | (simp; omega) | omega) _) | (with_reducible refine G.trans ?_ (by assumption))))
    go_wp2_with fail
    refine (known_any _ (HT.out.later g1)).mono ?_
    rintro e w2 ⟨rfl, hG2⟩
    go_wp2_with fail
    go_ret
    exact ⟨by first | rfl | simp, g1.trans hG2⟩
  have hn2 : n ≤ 30 := by omega
  by_cases hE : ckA f l = 0
  · have HE := Lib.hid hE
    have HK := Lib.hid (ckA_ok hE)
    have hL : Hid ((disp f l).length = n) := Lib.hid (by unfold disp; rw [dsM_len]; exact hn.out)
    clear hE
    go_enter Tryd.func7, Tryd.ntmps7
    go_wp2_with fail
    refine (known_any _ (HT.out.later (by (repeat' (first | (with_reducible exact G.refl _) | (with_reducible assumption) | (with_reducible refine G.drewN ?_ _) | (with_reducible refine G.drew ?_) | (with_reducible refine G.alloc ?_ _) | (with_reducible refine G.setCell ?_ (by first | (with_reducible exact Nat.le_refl _) | (simp; done) | (simp; omega) | omega) _) | (with_reducible refine G.trans ?_ (by assumption))))))).mono ?_
    rintro e w1 ⟨rfl, hG1⟩
    have g1' : G w w1 := by (repeat' (first | (with_reducible exact G.refl _) | (with_reducible assumption) | (with_reducible refine G.drewN ?_ _) | (with_reducible refine G.drew ?_) | (with_reducible refine G.alloc ?_ _) | (with_reducible refine G.setCell ?_ (by first | (with_reducible exact Nat.le_refl _) | (simp; done) | (simp; omega) | omega) _) | (with_reducible refine G.trans ?_ (by assumption))))
    go_wp2_with fail
    refine (rCheck_any f a l n c _ hn.out (by omega) (H1.out.later g1')).mono ?_
    rintro e w0 ⟨rfl, hG0⟩
    rw [HE.out]
    have g1 : G w w0 := g1'.trans hG0
    clear g1' hG1 hG0
    obtain ⟨i0, hi, hz0, hz1, hz2⟩ := info_parts' nnInfo
    have HAP := Lib.hid (nts_flat (H1.out.later g1))
    have HAN := Lib.hid (show a = none → n = 0 ∧ c = 0 from fun h => ⟨by have h1 := hcz h; have h2 := hlc; have := hn.out; omega, hcz h⟩)
    have hsz := g1.size
    obtain ⟨B, hB⟩ : ∃ z : Nat, w0.heap.size = z := ⟨_, rfl⟩
    go_wp2_with (at_builtin; refine append_all rfl _ _ 22 rfl B 54 i0 (.agg #[.int .i64 0, .int .i64 0, .int .i64 0, .int .i64 0, .bool false, .int .i64 0]) 6 48 Tryd.underlying22 hi hz0 hz1 hz2 rfl (by decide) (.slice (some ⟨B, 0, none⟩) 0 0) 0 [] rfl (row_new w0 B hB) a n c (l.flatMap ntE) rfl HAN.out (by rw [flat_len ntE 6 ntE_len, hn.out]) (fun ad ha j u hj => ((show G w0 _ by (repeat' (first | (with_reducible exact G.refl _) | (with_reducible assumption) | (with_reducible refine G.drewN ?_ _) | (with_reducible refine G.drew ?_) | (with_reducible refine G.alloc ?_ _) | (with_reducible refine G.setCell ?_ (by first | (with_reducible exact Nat.le_refl _) | (simp; done) | (simp; omega) | omega) _) | (with_reducible refine G.trans ?_ (by assumption))))).at (HAP.out ad ha j u hj))) flat_one (by unfold maxLen; omega) (by omega) (by simp; omega) ?_; intro v w2 hown hgrow hv0)
    have gN : G w w2 := Below.grown (B := w.heap.size) (show G w _ by (repeat' (first | (with_reducible exact G.refl _) | (with_reducible assumption) | (with_reducible refine G.drewN ?_ _) | (with_reducible refine G.drew ?_) | (with_reducible refine G.alloc ?_ _) | (with_reducible refine G.setCell ?_ (by first | (with_reducible exact Nat.le_refl _) | (simp; done) | (simp; omega) | omega) _) | (with_reducible refine G.trans ?_ (by assumption))))) hgrow (by simp; omega) (fun k hk => by simp [Value.ownBlock] at hk; omega)
    have RN : Row ntE 54 6 B w2 v l := by unfold Row; rw [hn.out]; simpa using hown
    rcases RN.cells ntE_len with ⟨hv, _⟩ | ⟨g, cap, hv, hg, _, _, _⟩
    · exact absurd (hv0.1 hv).1 (by simp)
    have HNW := Lib.hid (NW.of RN hv)
    rw [hn.out] at hv
    subst hv
    clear RN hown hgrow hv0
    have hgB : w.heap.size ≤ g := by omega
    go_wp2_with fail
    go_loopg [6] n (fun q x wr => ∃ i : Nat, x = .int .i64 i ∧ q = n - i ∧ i ≤ n ∧ Hid (NW wr g (mx f l i)) ∧ G w wr)
    case atStart => exact ⟨0, rfl, by omega, by omega, Lib.hid (by rw [mx_zero]; exact HNW.out.later (by (repeat' (first | (with_reducible exact G.refl _) | (with_reducible assumption) | (with_reducible refine G.drewN ?_ _) | (with_reducible refine G.drew ?_) | (with_reducible refine G.alloc ?_ _) | (with_reducible refine G.setCell ?_ (by first | (with_reducible exact Nat.le_refl _) | (simp; done) | (simp; omega) | omega) _) | (with_reducible refine G.trans ?_ (by assumption)))))), by (repeat' (first | (with_reducible exact G.refl _) | (with_reducible assumption) | (with_reducible refine G.drewN ?_ _) | (with_reducible refine G.drew ?_) | (with_reducible refine G.alloc ?_ _) | (with_reducible refine G.setCell ?_ (by first | (with_reducible exact Nat.le_refl _) | (simp; done) | (simp; omega) | omega) _) | (with_reducible refine G.trans ?_ (by assumption))))⟩
    case round =>
      obtain ⟨i, rfl, hq, hi', hW, gr⟩ := hrel
      have HQ := Lib.hid hq
      clear hq
      by_cases hin : i < n
      · obtain ⟨⟨t, s, al0, o, hd, sh⟩, hp⟩ : ∃ z, l[i]? = some z := ⟨l[i]'(by have := hn.out; omega), List.getElem?_eq_getElem (by have := hn.out; omega)⟩
        have HMX := Lib.hid (mx_at (f := f) hp)
        have HNX := Lib.hid (mx_next (f := f) hp)
        obtain ⟨_, ⟨⟨p0, p1⟩, _⟩, _⟩ := HK.out.2.2.1 _ (List.mem_of_getElem? hp)
        dsimp only at p0 p1
        obtain ⟨⟨x0, x1, x2, x3, x4, x5⟩, _, _⟩ := hW.out i _ HMX.out
        dsimp only at x0 x1 x2 x3 x4 x5
        have b1 : (0 : Int) ≤ (i : Int) := by omega
        have b2 : (i : Int) < (n : Int) := by omega
        have q1 := IntWalk.i64_in ((i : Int) + 1) (by omega)
        clear hp
        go_wp2_with fail
        refine (rKey_any f s _ HK.out.1 p0 p1).mono ?_
        rintro e w5 ⟨rfl, hG5⟩
        have HW5 := Lib.hid (hW.out.later hG5)
        have g5 : G w w5 := gr.trans hG5
        obtain ⟨⟨y0, y1, y2, y3, y4, y5⟩, f2, f5⟩ := HW5.out i _ HMX.out
        dsimp only at y0 y1 y2 y3 y4 y5
        have HS := Lib.hid (HW5.out.set HMX.out (al f s) 0)
        clear x0 x1 x2 x3 x4 x5
        go_wp2_with fail
        go_roundg (n - (i + 1))
        case measure => have := HQ.out; omega
        case rel => exact ⟨i + 1, by first | rfl | simp, rfl, by omega, Lib.hid (by rw [← HNX.out]; exact HS.out), (g5.setCell hgB _).setCell hgB _⟩
      · have hii : i = n := by omega
        subst hii
        have hAll : mx f l i = l.map (ky f) := by rw [← hn.out, mx_all]
        rw [hAll] at hW
        have HKA := Lib.hid (ckA_ky HE.out)
        have HDK := Lib.hid (disp_ky HE.out)
        have hnk : Hid ((l.map (ky f)).length = i) := Lib.hid (by rw [List.length_map]; exact hn.out)
        have HWN := Lib.hid hW.out.nts
        clear hAll
        go_wp2_with fail
        refine (own_any _ (l.map (ky f)) i cap _ hnk.out (by omega) (HWN.out)).mono ?_
        rintro e w6 ⟨v, rfl, hR, hG6⟩
        have g6 : G w w6 := gr.trans hG6
        obtain ⟨a6, c6, rfl, hN6⟩ := hR.nts
        rw [hnk.out]
        clear hR
        go_wp2_with fail
        refine (Display_ok f a6 (l.map (ky f)) i c6 _ hnk.out hN6 (HT.out.later g6) HKA.out).mono ?_
        rintro e w7 ⟨v, rfl, hR7, hG7⟩
        rw [HDK.out] at hR7
        have g7 : G w w7 := g6.trans hG7
        obtain ⟨a7, c7, rfl, hM7⟩ := Row.mks hR7
        have hL7 : ((l.map (ky f)).map (fun _ => ((0 : Int), false))).length = i := by rw [List.length_map]; exact hnk.out
        rw [hL7]
        have HM7 := Lib.hid hM7
        clear hR7 hM7 hL7 hN6
        go_wp2_with fail
        go_loopg [9] i (fun q x wr => ∃ j : Nat, x = .int .i64 j ∧ q = i - j ∧ j ≤ i ∧ G w7 wr)
        case atStart => exact ⟨0, rfl, by omega, by omega, by (repeat' (first | (with_reducible exact G.refl _) | (with_reducible assumption) | (with_reducible refine G.drewN ?_ _) | (with_reducible refine G.drew ?_) | (with_reducible refine G.alloc ?_ _) | (with_reducible refine G.setCell ?_ (by first | (with_reducible exact Nat.le_refl _) | (simp; done) | (simp; omega) | omega) _) | (with_reducible refine G.trans ?_ (by assumption))))⟩
        case round =>
          obtain ⟨j, rfl, hq, hj, gs⟩ := hrel
          have HQ2 := Lib.hid hq
          clear hq
          by_cases hjn : j < i
          · have hm : ((l.map (ky f)).map (fun _ => ((0 : Int), false)))[j]? = some (0, false) := by
              rw [List.getElem?_map, List.getElem?_eq_getElem (by rw [hnk.out]; exact hjn)]; rfl
            rcases HM7.out with hz | ⟨bm, rfl, fm⟩
            · rw [hz] at hm; simp at hm
            obtain ⟨y0, y1⟩ := fm j _ hm
            replace y0 := gs.at y0
            replace y1 := gs.at y1
            dsimp only at y0 y1
            have b1 : (0 : Int) ≤ (j : Int) := by omega
            have b2 : (j : Int) < (i : Int) := by omega
            have q1 := IntWalk.i64_in ((j : Int) + 1) (by omega)
            clear fm hm
            go_wp2_with fail
            go_roundg (i - (j + 1))
            case measure => have := HQ2.out; omega
            case rel => exact ⟨j + 1, by first | rfl | simp, rfl, by omega, by (repeat' (first | (with_reducible exact G.refl _) | (with_reducible assumption) | (with_reducible refine G.drewN ?_ _) | (with_reducible refine G.drew ?_) | (with_reducible refine G.alloc ?_ _) | (with_reducible refine G.setCell ?_ (by first | (with_reducible exact Nat.le_refl _) | (simp; done) | (simp; omega) | omega) _) | (with_reducible refine G.trans ?_ (by assumption))))⟩
          · have hjj : j = i := by omega
            subst hjj
            go_wp2_with fail
            go_ret
            exact ⟨by first | rfl | simp, g7.trans (by (repeat' (first | (with_reducible exact G.refl _) | (with_reducible assumption) | (with_reducible refine G.drewN ?_ _) | (with_reducible refine G.drew ?_) | (with_reducible refine G.alloc ?_ _) | (with_reducible refine G.setCell ?_ (by first | (with_reducible exact Nat.le_refl _) | (simp; done) | (simp; omega) | omega) _) | (with_reducible refine G.trans ?_ (by assumption)))))⟩
  · obtain ⟨E, hEE⟩ : ∃ z : Int, Hid (ckA f l = z) := ⟨_, rfl⟩
    have e0 : E ≠ 0 := by rw [← hEE.out]; exact hE
    have b3 : (E == 0) = false := beq_false_of_ne e0
    have b4 : (E != 0) = true := by simp [bne, b3]
    clear hE e0
    go_enter Tryd.func7, Tryd.ntmps7
    go_wp2_with fail
    refine (known_any _ (HT.out.later (by (repeat' (first | (with_reducible exact G.refl _) | (with_reducible assumption) | (with_reducible refine G.drewN ?_ _) | (with_reducible refine G.drew ?_) | (with_reducible refine G.alloc ?_ _) | (with_reducible refine G.setCell ?_ (by first | (with_reducible exact Nat.le_refl _) | (simp; done) | (simp; omega) | omega) _) | (with_reducible refine G.trans ?_ (by assumption))))))).mono ?_
    rintro e w1 ⟨rfl, hG1⟩
    have g1 : G w w1 := by (repeat' (first | (with_reducible exact G.refl _) | (with_reducible assumption) | (with_reducible refine G.drewN ?_ _) | (with_reducible refine G.drew ?_) | (with_reducible refine G.alloc ?_ _) | (with_reducible refine G.setCell ?_ (by first | (with_reducible exact Nat.le_refl _) | (simp; done) | (simp; omega) | omega) _) | (with_reducible refine G.trans ?_ (by assumption))))
    go_wp2_with fail
    refine (rCheck_any f a l n c _ hn.out (by omega) (H1.out.later g1)).mono ?_
    rintro e w2 ⟨rfl, hG2⟩
    rw [hEE.out]
    have g2 : G w w2 := g1.trans hG2
    go_wp2_with fail
    refine (known_any _ (HT.out.later g2)).mono ?_
    rintro e w3 ⟨rfl, hG3⟩
    go_wp2_with fail
    go_ret
    exact ⟨by first | rfl | simp, g2.trans hG3⟩

/-! ### the row and the card -/
open Go.ChangeShapes Go.WideShapes Go.ChangeAt Go.RowKit
set_option maxRecDepth 100000 in
theorem accidentalScale_lifted (os : Os) (started : os.Started) (H : Type) (enc : TypeId × Value → H) :
    ReturnsInHanded {} Tryd.checked os 7 .any (fun w args => (Rows.accidentalScaleSpec.pre enc Tryd.prog Tryd.f7 [] false w args ∧ laidMetH Tryd.prog laidL w) ∧ sizedMet enc Tryd.prog Tryd.f7 (OpenSpec.ofChange Rows.accidentalScaleSpec) false w args)
      (Rows.accidentalScaleSpec.post enc Tryd.prog Tryd.f7 false true false false) := by
  refine returnsInHanded_of_change_and (C := Tryd.checked) (X := fun w _ => laidMetH Tryd.prog laidL w) (fun _ _ _ hh h => h.of_heap hh) own started (by kernel_rfl) Tryd.func7
    (ChangeSpec.witness_shaped (enc := enc) (C := Tryd.checked) (os := os) (X := fun w _ => laidMetH Tryd.prog laidL w) false (World.laidAll Tryd.prog os laidL) #[.int .i64 0, .slice none 0 0] 8 (World.laidAll_os _ _ _) (shapedL os) (by kernel_rfl) (by kernel_rfl) (by kernel_rfl) (laid_met os _)) ?_
  intro W base args ds gs before hval0 hW _ _ hL _
  have hval : ∀ (j : Nat) t v, Tryd.f7.params[j]? = some t → args[j]? = some v → Value.okWide Tryd.prog W .any base t v := hval0
  have hW' := hW
  obtain ⟨p, q, hA0, hV, rfl, hfz, hnd⟩ := hW
  have hA : DataW.TrodAll enc Tryd.prog W 0 (fun _ => true) true Tryd.f7.params.toList args.toList ds p := hA0
  rw [Tryd.params7] at hA hval
  obtain ⟨v0, vs0, d0, ds0, p0, q0, hargs, rfl, rfl, h0, r0⟩ := trodAll_cons hA
  obtain ⟨v1, vs1, d1, ds1, p1, q1, rfl, rfl, rfl, h1, r1⟩ := trodAll_cons r0
  obtain ⟨rfl, rfl, rfl⟩ := trodAll_nil r1
  obtain rfl : args = #[v0, v1] := by cases args; simp_all
  obtain ⟨rfl, rfl⟩ := trodVars_none hV
  obtain ⟨a0, rfl, rfl, rfl, w0⟩ := open_int Tryd.underlying3 (hval 0 3 v0 rfl rfl) h0
  obtain ⟨bl0, bh0⟩ := bounds_i64 w0
  have keep1 := h1
  obtain ⟨a1, cap1, l1, rfl, lc1, mc1, la1, wf1, lz1⟩ := open_nsArg (hval 1 22 v1 rfl rfl) h1
  clear hA0 hval0
  simp only [List.append_nil] at hW'
  have hlt1 : ∀ x ∈ p1, x.block < W.heap.size := fun x hx => by have := hW'.lt x (by simp [hx]); simpa using this
  refine (scale_walk a0 a1 l1 cap1 W bl0 bh0 lc1 mc1 la1 lz1  (tab_of_laid hL)).mono fun e W' ⟨he, hg⟩ => ?_
  subst he
  exact ⟨_, rfl, _, _, _, [], ([] ++ (p1 ++ [])), [], hW', (trodAll_cons_mk (shut_bool Tryd.underlying4 _) trodAll_mk0), (trodAll_cons_mk (shut_int Tryd.underlying3 w0) (trodAll_cons_mk (Below.trod (by kernel_rfl) (by kernel_rfl) (of_decide_eq_true (by kernel_rfl)) keep1 hg hlt1) trodAll_mk0)), rfl, Below.frame hg _, fun h => by cases h⟩

theorem accidentalScale_holds : Rows.AccidentalScaleSaid :=
  OpenClaim.holds_of_wide 7 Tryd.f7 rfl rfl rfl rfl rfl rfl rfl ⟨rfl, rfl, rfl, rfl, rfl⟩ rfl rfl rfl rfl rfl (by kernel_rfl) Tryd.func7 (by kernel_rfl)
    (of_decide_eq_true (by kernel_rfl)) (by unfold Func.isWrapper; first | (rw [if_pos (by decide +kernel)]; kernel_rfl) | (rw [if_neg (by decide +kernel)]; exact ⟨rfl, rfl⟩))
    (fun os started H enc _ => accidentalScale_lifted os started H enc)

theorem accidentalScale_card : Rows.AccidentalScaleCardSaid :=
  Claim7.holds_tied_plain_at .later [] [.data] true (true, "4264632c309685b5b10934852733a39ae7af05b3fbb51cbce9b1665c55e2b979") false
    accidentalScale_holds (fun _ h => by cases h) (by kernel_rfl) (fun _ h => by cases h) accidentalScale_row_tie rfl ⟨rfl, rfl⟩ (by kernel_rfl) rfl
    (fun f fn hf hfn => by
      obtain rfl : f = 7 := Option.some.inj ((show Tryd.prog.funcNamed "hemiola/hemiolalaw10.AccidentalScale" = some 7 by kernel_rfl).symm.trans hf) |>.symm
      obtain rfl : fn = Tryd.f7 := (Option.some.inj (Tryd.func7.symm.trans hfn)).symm
      exact ⟨by kernel_rfl, fun j t ht => by
        rw [Tryd.params7] at ht
        have hm : t ∈ [3, 22] := by simpa using Array.mem_of_getElem? ht
        have hall : ([3, 22].all fun u => !Tryd.prog.wantsStandIn u) = true := by kernel_rfl
        exact (show Tryd.prog.wantsStandIn t = false by simpa using List.all_eq_true.1 hall t hm)⟩)
    (by kernel_rfl)
#print axioms accidentalScale_card
end Go.Proofs.YtghlecocnflbnaaDoor
