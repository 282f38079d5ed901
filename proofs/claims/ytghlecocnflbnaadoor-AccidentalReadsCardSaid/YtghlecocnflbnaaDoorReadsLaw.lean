/- AccidentalReads: for any key signature and any list of up to 30 places, Read returns the alterations of the reference, or the first error; the arguments read as before; the table that the row lists is tied to the program text; no further condition. -/
import Derived.Test.YtghlecocnflbnaaDoorKnown
import Derived.Test.YtghlecocnflbnaaDoorLaidP
import Derived.Test.YtghlecocnflbnaaDoorA7
import Derived.Test.YtghlecocnflbnaaDoorR3
import Derived.Test.YtghlecocnflbnaaDoorR6
namespace Go.Proofs.YtghlecocnflbnaaDoor
open Go.RowKit Go.ChangeShapes Go.WideShapes
attribute [local go_sem] World.cell?_alloc_some

set_option maxRecDepth 100000 in
set_option maxHeartbeats 12800000 in
theorem reads_walk (f : Int) (a : Option Addr) (l : List Pl) (c : Nat) (w : World) (_ : -9223372036854775808 ≤ f) (_ : f ≤ 9223372036854775807) (_ : l.length ≤ c) (_ : c ≤ maxLen) (h1 : PlsAt w a l) (_ : a = none → c = 0) (hT : Tab w) :
    Calls Tryd.prog 4 #[.int .i64 f, .slice a l.length c] w fun e w' => e = .returned (.bool true) ∧ G w w' := by
  obtain ⟨i0, hi, hz0, hz1, hz2⟩ := info_parts' pInfo
  have HT := Lib.hid hT
  have H1 := Lib.hid h1
  clear hT h1
  obtain ⟨n, hn⟩ : ∃ z : Nat, Hid (l.length = z) := ⟨_, rfl⟩
  rw [hn.out]
  by_cases h30 : 30 < (n : Int)
  · go_enter Tryd.func4, Tryd.ntmps4
    go_wp2_with fail
    refine (known_any _ (HT.out.later (by (repeat' (first | (with_reducible exact G.refl _) | (with_reducible assumption) | (with_reducible refine G.drewN ?_ _) | (with_reducible refine G.drew ?_) | (with_reducible refine G.alloc ?_ _) | (with_reducible refine G.setCell ?_ (by first | (with_reducible exact Nat.le_refl _) | (simp; done) | (simp; omega) | omega) _) | (with_reducible refine G.trans ?_ (by assumption))))))).mono ?_
    rintro e w1 ⟨rfl, hG1⟩
    have g1 : G w w1 := by (repeat' (first | (with_reducible exact G.refl _) | (with_reducible assumption) | (with_reducible refine G.drewN ?_ _) | (with_reducible refine G.drew ?_) | (with_reducible refine G.alloc ?_ _) | (with_reducible refine G.setCell ?_ (by first | (with_reducible exact Nat.le_refl _) | (simp; done) | (simp; omega) | omega) _) | (with_reducible refine G.trans ?_ (by assumption))))
    go_wp2_with fail
    refine (known_any _ (HT.out.later g1)).mono ?_
    rintro e w2 ⟨rfl, hG2⟩
    go_wp2_with fail
    go_ret
    exact ⟨by first | rfl | simp, g1.trans hG2⟩
  have hn2 : n ≤ 30 := by omega
  go_enter Tryd.func4, Tryd.ntmps4
  go_wp2_with fail
  refine (known_any _ (HT.out.later (by (repeat' (first | (with_reducible exact G.refl _) | (with_reducible assumption) | (with_reducible refine G.drewN ?_ _) | (with_reducible refine G.drew ?_) | (with_reducible refine G.alloc ?_ _) | (with_reducible refine G.setCell ?_ (by first | (with_reducible exact Nat.le_refl _) | (simp; done) | (simp; omega) | omega) _) | (with_reducible refine G.trans ?_ (by assumption))))))).mono ?_
  rintro e w1 ⟨rfl, hG1⟩
  have g1 : G w w1 := by (repeat' (first | (with_reducible exact G.refl _) | (with_reducible assumption) | (with_reducible refine G.drewN ?_ _) | (with_reducible refine G.drew ?_) | (with_reducible refine G.alloc ?_ _) | (with_reducible refine G.setCell ?_ (by first | (with_reducible exact Nat.le_refl _) | (simp; done) | (simp; omega) | omega) _) | (with_reducible refine G.trans ?_ (by assumption))))
  go_wp2_with fail
  go_loopg [5, 6] n (fun q y x wr => ∃ (i : Nat) (v : Value), v = y ∧ x = .int .i64 i ∧ q = n - i ∧ i ≤ n ∧ Hid (Row plE 45 7 w1.heap.size wr v (l.take i)) ∧ G w1 wr)
  case atStart => exact ⟨0, _, rfl, rfl, by omega, by omega, Lib.hid (by simpa using Row.nil (enc := plE) _), by (repeat' (first | (with_reducible exact G.refl _) | (with_reducible assumption) | (with_reducible refine G.drewN ?_ _) | (with_reducible refine G.drew ?_) | (with_reducible refine G.alloc ?_ _) | (with_reducible refine G.setCell ?_ (by first | (with_reducible exact Nat.le_refl _) | (simp; done) | (simp; omega) | omega) _) | (with_reducible refine G.trans ?_ (by assumption))))⟩
  case round =>
    obtain ⟨i, v, rfl, rfl, hq, hi', hR, gr⟩ := hrel
    have HQ := Lib.hid hq
    clear hq
    by_cases hin : i < n
    · obtain ⟨⟨t, s, o, K, PB, hd, bf⟩, hp⟩ : ∃ z, l[i]? = some z := ⟨l[i]'(by have := hn.out; omega), List.getElem?_eq_getElem (by have := hn.out; omega)⟩
      rcases H1.out with hz | ⟨bl, of, rfl, fc⟩
      · rw [hz] at hp; simp at hp
      obtain ⟨x0, x1, x2, x3, x4, x5, x6⟩ := (fc i _ hp).later (g1.trans gr)
      dsimp only at x0 x1 x2 x3 x4 x5 x6
      have HP := Lib.hid hp
      have HX := Lib.hid (show l.take (i + 1) = l.take i ++ [⟨t, s, o, K, PB, hd, bf⟩] by rw [List.take_add_one, hp]; rfl)
      have HLT := Lib.hid (show (l.take i).length = i by rw [List.length_take]; have := hn.out; omega)
      have b1 : (0 : Int) ≤ (i : Int) := by omega
      have b2 : (i : Int) < (n : Int) := by omega
      have q1 := IntWalk.i64_in ((i : Int) + 1) (by omega)
      have hsz := gr.size
      have FC := Lib.hid fc
      clear fc hp
      go_wp2_with fail
      go_region_held3 (fun w' => w'.cell? ⟨bl, of + i * 7, none⟩ = some (.int .i64 t) ∧ w'.cell? ⟨bl, of + i * 7 + 1, none⟩ = some (.int .i64 s) ∧ w'.cell? ⟨bl, of + i * 7 + 2, none⟩ = some (.int .i64 o) ∧ w'.cell? ⟨bl, of + i * 7 + 3, none⟩ = some (.int .i64 K) ∧ w'.cell? ⟨bl, of + i * 7 + 4, none⟩ = some (.bool PB) ∧ w'.cell? ⟨bl, of + i * 7 + 5, none⟩ = some (.bool hd) ∧ w'.cell? ⟨bl, of + i * 7 + 6, none⟩ = some (.int .i64 bf))
        (first | (with_reducible assumption) | ((try dsimp only); (repeat' (with_reducible apply And.intro)) <;> go_simp))
        (first
          | (refine step_append_lies _ rfl _ _ 38 rfl w1.heap.size 45 i0 (.agg #[.int .i64 0, .int .i64 0, .int .i64 0, .int .i64 0, .bool false, .bool false, .int .i64 0]) 7 56 Tryd.underlying38 hi hz0 hz1 hz2 rfl (by decide) v (l.take i).length ((l.take i).flatMap plE) rfl (hR.out.later (by (repeat' (first | (with_reducible exact G.refl _) | (with_reducible assumption) | (with_reducible refine G.drewN ?_ _) | (with_reducible refine G.drew ?_) | (with_reducible refine G.alloc ?_ _) | (with_reducible refine G.setCell ?_ (by first | (with_reducible exact Nat.le_refl _) | (simp; done) | (simp; omega) | omega) _) | (with_reducible refine G.trans ?_ (by assumption)))))) ⟨wr.heap.size, 0, none⟩ 1 1 [.int .i64 t, .int .i64 s, .int .i64 o, .int .i64 K, .bool PB, .bool hd, .int .i64 bf] rfl rfl (new_add _ _ [.int .i64 t, .int .i64 s, .int .i64 o, .int .i64 K, .bool PB, .bool hd, .int .i64 bf] _ (by simp)) (by simp [Value.oneCell']) (by omega) (by unfold maxLen; rw [HLT.out]; omega) (by rw [HLT.out]; omega) (by simp; omega) _ rfl ?_; intro gb cap2 w8 hown' hgrow _ _; have RN := Lib.hid (Row.more (enc := plE) (M := l.take i) (x := ⟨t, s, o, K, PB, hd, bf⟩) hown'); have gN : G w1 w8 := Below.grown (B := w1.heap.size) (show G w1 _ by (repeat' (first | (with_reducible exact G.refl _) | (with_reducible assumption) | (with_reducible refine G.drewN ?_ _) | (with_reducible refine G.drew ?_) | (with_reducible refine G.alloc ?_ _) | (with_reducible refine G.setCell ?_ (by first | (with_reducible exact Nat.le_refl _) | (simp; done) | (simp; omega) | omega) _) | (with_reducible refine G.trans ?_ (by assumption))))) hgrow (by simp; omega) (fun k hk => hR.out.own k hk); obtain ⟨y0, y1, y2, y3, y4, y5, y6⟩ := (FC.out i _ HP.out).later (g1.trans gN); dsimp only at y0 y1 y2 y3 y4 y5 y6))
      all_goals
        go_wp2_with fail
        go_roundg (n - (i + 1))
        case measure => have := HQ.out; omega
        case rel => exact ⟨i + 1, _, rfl, by go_num, rfl, by omega, Lib.hid (by rw [HX.out]; have RN' := RN.out; simp only [List.length_take] at RN'; exact RN'), gN⟩
    · have hii : i = n := by omega
      subst hii
      have hTk : l.take i = l := by rw [← hn.out, List.take_length]
      rw [hTk] at hR
      have g2 : G w wr := g1.trans gr
      obtain ⟨a2, c2, rfl, hP2⟩ := Row.pls hR.out
      have HP2 := Lib.hid hP2
      have hnR := hn.out
      rw [hnR]
      clear hR hP2 hTk hnR
      by_cases hE : ckB f l = 0
      · have HE := Lib.hid hE
        have hLR : Hid ((rdL (sg0 f) l).length = i) := Lib.hid (by rw [rdL_len]; exact hn.out)
        have hRD : Hid (read f l = rdL (sg0 f) l) := Lib.hid (by unfold read; rw [if_pos hE])
        clear hE
        go_wp2_with fail
        refine (Read_ok f a2 l _ c2 _ hn.out HP2.out (HT.out.later g2) HE.out).mono ?_
        rintro e w3 ⟨v, rfl, hR3, hG3⟩
        have g3 : G w w3 := g2.trans hG3
        have HC3 := Lib.hid (hR3.cells inE_len)
        obtain ⟨p3, c3, rfl, _⟩ := hR3.len
        rw [hLR.out]
        clear hR3
        go_wp2_with fail
        refine (rRead_any f a l _ c _ hn.out (by omega) (H1.out.later g3)).mono ?_
        rintro e w4 ⟨v, rfl, hR4, hG4⟩
        rw [hRD.out] at hR4
        rw [HE.out]
        have g4 : G w w4 := g3.trans hG4
        have HC4 := Lib.hid (hR4.cells inE_len)
        obtain ⟨p4, c4, rfl, _⟩ := hR4.len
        rw [hLR.out]
        clear hR4
        go_wp2_with fail
        go_loopg [11] i (fun q x wr => ∃ j : Nat, x = .int .i64 j ∧ q = i - j ∧ j ≤ i ∧ G w4 wr)
        case atStart => exact ⟨0, rfl, by omega, by omega, by (repeat' (first | (with_reducible exact G.refl _) | (with_reducible assumption) | (with_reducible refine G.drewN ?_ _) | (with_reducible refine G.drew ?_) | (with_reducible refine G.alloc ?_ _) | (with_reducible refine G.setCell ?_ (by first | (with_reducible exact Nat.le_refl _) | (simp; done) | (simp; omega) | omega) _) | (with_reducible refine G.trans ?_ (by assumption))))⟩
        case round =>
          obtain ⟨j, rfl, hq, hj, gr4⟩ := hrel
          have HQ := Lib.hid hq
          clear hq
          by_cases hjn : j < i
          · obtain ⟨A, hp⟩ : ∃ z, (rdL (sg0 f) l)[j]? = some z := ⟨(rdL (sg0 f) l)[j]'(by have := hLR.out; omega), List.getElem?_eq_getElem (by have := hLR.out; omega)⟩
            rcases HC3.out with ⟨_, hz⟩ | ⟨b3, d3, hv, _, _, _, hc⟩
            · rw [hz] at hp; simp at hp
            simp only [Value.slice.injEq] at hv
            obtain ⟨hv1, _, _⟩ := hv
            have y0 := gr4.at (hG4.at (hc j A hp 0 _ rfl).1)
            rw [Nat.mul_one, Nat.add_zero] at y0
            subst hv1
            rcases HC4.out with ⟨_, hz⟩ | ⟨b4, d4, hv, _, _, _, hc'⟩
            · rw [hz] at hp; simp at hp
            simp only [Value.slice.injEq] at hv
            obtain ⟨hv1, _, _⟩ := hv
            have y1 := gr4.at (hc' j A hp 0 _ rfl).1
            rw [Nat.mul_one, Nat.add_zero] at y1
            subst hv1
            have b1 : (0 : Int) ≤ (j : Int) := by omega
            have b2 : (j : Int) < (i : Int) := by omega
            have q1 := IntWalk.i64_in ((j : Int) + 1) (by omega)
            have k1 : (A == A) = true := by simp
            have k2 : (A != A) = false := by simp
            clear hp hc hc'
            go_wp2_with fail
            go_big_region
            all_goals
              go_wp2_with fail
              go_roundg (i - (j + 1))
              case measure => have := HQ.out; omega
              case rel => exact ⟨j + 1, by first | rfl | simp, rfl, by omega, by (repeat' (first | (with_reducible exact G.refl _) | (with_reducible assumption) | (with_reducible refine G.drewN ?_ _) | (with_reducible refine G.drew ?_) | (with_reducible refine G.alloc ?_ _) | (with_reducible refine G.setCell ?_ (by first | (with_reducible exact Nat.le_refl _) | (simp; done) | (simp; omega) | omega) _) | (with_reducible refine G.trans ?_ (by assumption))))⟩
          · have hjj : j = i := by omega
            subst hjj
            go_wp2_with fail
            go_ret
            exact ⟨by first | rfl | simp, g4.trans (by (repeat' (first | (with_reducible exact G.refl _) | (with_reducible assumption) | (with_reducible refine G.drewN ?_ _) | (with_reducible refine G.drew ?_) | (with_reducible refine G.alloc ?_ _) | (with_reducible refine G.setCell ?_ (by first | (with_reducible exact Nat.le_refl _) | (simp; done) | (simp; omega) | omega) _) | (with_reducible refine G.trans ?_ (by assumption)))))⟩
      · obtain ⟨E, hEE⟩ : ∃ z : Int, Hid (ckB f l = z) := ⟨_, rfl⟩
        have e0 : E ≠ 0 := by rw [← hEE.out]; exact hE
        have HE := Lib.hid hE
        have hRD : Hid (read f l = []) := Lib.hid (by unfold read; rw [if_neg hE])
        have b5 : (E == E) = true := by simp
        have b6 : (E != E) = false := by simp
        clear hE e0
        go_wp2_with fail
        refine (Read_bad f a2 l _ c2 _ hn.out HP2.out HE.out).mono ?_
        rintro e w3 ⟨rfl, hG3⟩
        have g3 : G w w3 := g2.trans hG3
        rw [hEE.out]
        go_wp2_with fail
        refine (rRead_any f a l _ c _ hn.out (by omega) (H1.out.later g3)).mono ?_
        rintro e w4 ⟨v, rfl, hR4, hG4⟩
        rw [hRD.out] at hR4
        rw [hEE.out]
        have g4 : G w w4 := g3.trans hG4
        obtain ⟨p4, c4, rfl, _⟩ := hR4.len
        rw [List.length_nil]
        clear hR4
        go_wp2_with fail
        go_loopg [11] 0 (fun q x wr => x = .int .i64 0 ∧ q = 0 ∧ wr = w4)
        case atStart => exact ⟨rfl, rfl, rfl⟩
        case round =>
          obtain ⟨rfl, _, rfl⟩ := hrel
          go_wp2_with fail
          go_ret
          exact ⟨by first | rfl | simp, g4⟩

/-! ### the row and the card -/
open Go.ChangeShapes Go.WideShapes Go.ChangeAt Go.RowKit
set_option maxRecDepth 100000 in
theorem accidentalReads_lifted (os : Os) (started : os.Started) (H : Type) (enc : TypeId × Value → H) :
    ReturnsInHanded {} Tryd.checked os 4 .any (fun w args => (Rows.accidentalReadsSpec.pre enc Tryd.prog Tryd.f4 [] false w args ∧ laidMetH Tryd.prog laidL w) ∧ sizedMet enc Tryd.prog Tryd.f4 (OpenSpec.ofChange Rows.accidentalReadsSpec) false w args)
      (Rows.accidentalReadsSpec.post enc Tryd.prog Tryd.f4 false true false false) := by
  refine returnsInHanded_of_change_and (C := Tryd.checked) (X := fun w _ => laidMetH Tryd.prog laidL w) (fun _ _ _ hh h => h.of_heap hh) own started (by kernel_rfl) Tryd.func4
    (ChangeSpec.witness_shaped (enc := enc) (C := Tryd.checked) (os := os) (X := fun w _ => laidMetH Tryd.prog laidL w) false (World.laidAll Tryd.prog os laidL) #[.int .i64 0, .slice none 0 0] 8 (World.laidAll_os _ _ _) (shapedL os) (by kernel_rfl) (by kernel_rfl) (by kernel_rfl) (laid_met os _)) ?_
  intro W base args ds gs before hval0 hW _ _ hL _
  have hval : ∀ (j : Nat) t v, Tryd.f4.params[j]? = some t → args[j]? = some v → Value.okWide Tryd.prog W .any base t v := hval0
  have hW' := hW
  obtain ⟨p, q, hA0, hV, rfl, hfz, hnd⟩ := hW
  have hA : DataW.TrodAll enc Tryd.prog W 0 (fun _ => true) true Tryd.f4.params.toList args.toList ds p := hA0
  rw [Tryd.params4] at hA hval
  obtain ⟨v0, vs0, d0, ds0, p0, q0, hargs, rfl, rfl, h0, r0⟩ := trodAll_cons hA
  obtain ⟨v1, vs1, d1, ds1, p1, q1, rfl, rfl, rfl, h1, r1⟩ := trodAll_cons r0
  obtain ⟨rfl, rfl, rfl⟩ := trodAll_nil r1
  obtain rfl : args = #[v0, v1] := by cases args; simp_all
  obtain ⟨rfl, rfl⟩ := trodVars_none hV
  obtain ⟨a0, rfl, rfl, rfl, w0⟩ := open_int Tryd.underlying3 (hval 0 3 v0 rfl rfl) h0
  obtain ⟨bl0, bh0⟩ := bounds_i64 w0
  have keep1 := h1
  obtain ⟨a1, cap1, l1, rfl, lc1, mc1, la1, wf1, lz1⟩ := open_plsArg (hval 1 37 v1 rfl rfl) h1
  clear hA0 hval0
  simp only [List.append_nil] at hW'
  have hlt1 : ∀ x ∈ p1, x.block < W.heap.size := fun x hx => by have := hW'.lt x (by simp [hx]); simpa using this
  refine (reads_walk a0 a1 l1 cap1 W bl0 bh0 lc1 mc1 la1 lz1  (tab_of_laid hL)).mono fun e W' ⟨he, hg⟩ => ?_
  subst he
  exact ⟨_, rfl, _, _, _, [], ([] ++ (p1 ++ [])), [], hW', (trodAll_cons_mk (shut_bool Tryd.underlying4 _) trodAll_mk0), (trodAll_cons_mk (shut_int Tryd.underlying3 w0) (trodAll_cons_mk (Below.trod (by kernel_rfl) (by kernel_rfl) (of_decide_eq_true (by kernel_rfl)) keep1 hg hlt1) trodAll_mk0)), rfl, Below.frame hg _, fun h => by cases h⟩

theorem accidentalReads_holds : Rows.AccidentalReadsSaid :=
  OpenClaim.holds_of_wide 4 Tryd.f4 rfl rfl rfl rfl rfl rfl rfl ⟨rfl, rfl, rfl, rfl, rfl⟩ rfl rfl rfl rfl rfl (by kernel_rfl) Tryd.func4 (by kernel_rfl)
    (of_decide_eq_true (by kernel_rfl)) (by unfold Func.isWrapper; first | (rw [if_pos (by decide +kernel)]; kernel_rfl) | (rw [if_neg (by decide +kernel)]; exact ⟨rfl, rfl⟩))
    (fun os started H enc _ => accidentalReads_lifted os started H enc)

theorem accidentalReads_card : Rows.AccidentalReadsCardSaid :=
  Claim7.holds_tied_plain_at .later [] [.data] true (true, "4264632c309685b5b10934852733a39ae7af05b3fbb51cbce9b1665c55e2b979") false
    accidentalReads_holds (fun _ h => by cases h) (by kernel_rfl) (fun _ h => by cases h) accidentalReads_row_tie rfl ⟨rfl, rfl⟩ (by kernel_rfl) rfl
    (fun f fn hf hfn => by
      obtain rfl : f = 4 := Option.some.inj ((show Tryd.prog.funcNamed "hemiola/hemiolalaw10.AccidentalReads" = some 4 by kernel_rfl).symm.trans hf) |>.symm
      obtain rfl : fn = Tryd.f4 := (Option.some.inj (Tryd.func4.symm.trans hfn)).symm
      exact ⟨by kernel_rfl, fun j t ht => by
        rw [Tryd.params4] at ht
        have hm : t ∈ [3, 37] := by simpa using Array.mem_of_getElem? ht
        have hall : ([3, 37].all fun u => !Tryd.prog.wantsStandIn u) = true := by kernel_rfl
        exact (show Tryd.prog.wantsStandIn t = false by simpa using List.all_eq_true.1 hall t hm)⟩)
    (by kernel_rfl)
#print axioms accidentalReads_card
end Go.Proofs.YtghlecocnflbnaaDoor
