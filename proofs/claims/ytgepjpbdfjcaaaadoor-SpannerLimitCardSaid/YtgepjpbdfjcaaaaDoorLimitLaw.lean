/- SpannerLimit: a list of api.MaxSpanners spans that are apart is accepted, and one more is not; the arguments read as before; no further condition than the laid table. -/
import Derived.Test.YtgepjpbdfjcaaaaDoorRows
import Derived.Test.YtgepjpbdfjcaaaaDoorLimMath
import Derived.Test.YtgepjpbdfjcaaaaDoorKnown
import Derived.Test.YtgepjpbdfjcaaaaDoorS10
import Derived.Test.YtgepjpbdfjcaaaaDoorRw
import Derived.Test.YtgepjpbdfjcaaaaDoorLaid
namespace Go.Proofs.YtgepjpbdfjcaaaaDoor
open Go.RowKit Go.ChangeShapes Go.WideShapes
attribute [local go_sem] World.cell?_alloc_some

set_option maxRecDepth 100000 in
set_option maxHeartbeats 12800000 in
theorem limit_walk (m : Bool) (a : Int) (w : World) (h0 : 0 ≤ a) (h9 : a ≤ 255) (hT : Tab w) :
    Calls Tryd.prog 12 #[.bool m, .int .u8 a] w fun e w' => e = .returned (.bool true) ∧ G w w' := by
  have HT := Lib.hid hT
  clear hT
  obtain ⟨i0, hi0, hz0, hz1, hz2⟩ := info_parts' sInfo
  have r0 : 0 ≤ a % 7 := by omega
  have r1 : a % 7 < 7 := by omega
  have HKd := Lib.hid (show Kd (1 + a % 7) by unfold Kd; omega)
  have q1 := IntWalk.i64_in a (by omega)
  have q2 := IntWalk.i64_in (1 + a % 7) (by omega)
  cases m
  · have HCK := Lib.hid (show ckS (limL (1 + a % 7) 4096) = (-1, 0) from lim_ok _ _ HKd.out (by omega))
    go_enter Tryd.func12, Tryd.ntmps12
    go_wp2_with fail
    go_loopg [6, 7] 4096 (fun q y x wr => ∃ (i : Nat) (v : Value), v = y ∧ x = .int .i64 i ∧ q = 4096 - i ∧ i ≤ 4096 ∧ Hid (Row spE 31 9 w.heap.size wr v (limL (1 + a % 7) i)) ∧ G w wr)
    case atStart => exact ⟨0, _, rfl, rfl, by omega, by omega, Lib.hid (by simpa [limL] using Row.nil (enc := spE) w), by (repeat' (first | (with_reducible exact G.refl _) | (with_reducible assumption) | (with_reducible refine G.drewN ?_ _) | (with_reducible refine G.drew ?_) | (with_reducible refine G.alloc ?_ _) | (with_reducible refine G.setCell ?_ (by first | (with_reducible exact Nat.le_refl _) | (simp; done) | (simp; omega) | omega) _) | (with_reducible refine G.trans ?_ (by assumption))))⟩
    case round =>
      obtain ⟨i, v, rfl, rfl, hq, hi', hR, gr⟩ := hrel
      have HQ := Lib.hid hq
      clear hq
      by_cases hin : i < 4096
      · have HX := Lib.hid (limL_more (1 + a % 7) i)
        have HLT := Lib.hid (limL_len (1 + a % 7) i)
        have b1 : (0 : Int) ≤ (i : Int) := by omega
        have b2 : (i : Int) < 4096 := by omega
        have q3 := IntWalk.i64_in ((i : Int) + 1) (by omega)
        have q4 := IntWalk.i64_in (2 * ((i : Int) / 128)) (by omega)
        have q5 := IntWalk.i64_in (2 * ((i : Int) / 128) + 1) (by omega)
        have hsz := gr.size
        go_wp2_with (at_builtin; refine wpList_append_own _ rfl _ _ 43 rfl w.heap.size 31 i0 (.agg #[.int .i64 0, .int .i64 0, .int .i64 0, .int .i64 0, .int .i64 0, .int .i64 0, .int .i64 0, .int .i64 0, .int .i64 0]) 9 72 Tryd.underlying43 hi0 hz0 hz1 hz2 rfl (by decide) v (limL (1 + a % 7) i).length ((limL (1 + a % 7) i).flatMap spE) rfl (hR.out.later (by (repeat' (first | (with_reducible exact G.refl _) | (with_reducible assumption) | (with_reducible refine G.drewN ?_ _) | (with_reducible refine G.drew ?_) | (with_reducible refine G.alloc ?_ _) | (with_reducible refine G.setCell ?_ (by first | (with_reducible exact Nat.le_refl _) | (simp; done) | (simp; omega) | omega) _) | (with_reducible refine G.trans ?_ (by assumption)))))) ⟨wr.heap.size, 0, none⟩ 1 1 [.int .i64 (1 + a % 7), .int .i64 0, .int .i64 (2 * ((i : Int) / 128)), .int .i64 ((i : Int) % 128), .int .i64 0, .int .i64 0, .int .i64 (2 * ((i : Int) / 128) + 1), .int .i64 ((i : Int) % 128), .int .i64 0] rfl rfl (new_add _ _ [.int .i64 (1 + a % 7), .int .i64 0, .int .i64 (2 * ((i : Int) / 128)), .int .i64 ((i : Int) % 128), .int .i64 0, .int .i64 0, .int .i64 (2 * ((i : Int) / 128) + 1), .int .i64 ((i : Int) % 128), .int .i64 0] _ (by simp)) (by simp [Value.oneCell']) (by unfold maxLen; rw [HLT.out]; omega) (by rw [HLT.out]; omega) (by simp; omega) ?_; intro v' w6 hown' hgrow _)
        have RN := Lib.hid (Row.more (enc := spE) (M := limL (1 + a % 7) i) (x := limE (1 + a % 7) i) hown')
        have gN : G w w6 := Below.grown (B := w.heap.size) (show G w _ by (repeat' (first | (with_reducible exact G.refl _) | (with_reducible assumption) | (with_reducible refine G.drewN ?_ _) | (with_reducible refine G.drew ?_) | (with_reducible refine G.alloc ?_ _) | (with_reducible refine G.setCell ?_ (by first | (with_reducible exact Nat.le_refl _) | (simp; done) | (simp; omega) | omega) _) | (with_reducible refine G.trans ?_ (by assumption))))) hgrow (by simp; omega) (fun k hk => hR.out.own k hk)
        go_roundg (4096 - (i + 1))
        case measure => have := HQ.out; omega
        case rel => exact ⟨i + 1, v', rfl, by first | rfl | simp, rfl, by omega, Lib.hid (by rw [HX.out]; exact RN.out), gN⟩
      · have hii : i = 4096 := by omega
        subst hii
        obtain ⟨a2, c2, rfl, hc2, hT2⟩ := hR.out.sps
        rw [limL_len] at hc2 ⊢
        have H2 := Lib.hid hT2
        have HC2 := Lib.hid hc2
        have HN := Lib.hid (limL_len (1 + a % 7) 4096)
        clear hR hT2 hc2
        go_wp2_with fail
        refine (sCheck_any a2 (limL (1 + a % 7) 4096) 4096 c2 _ HN.out HC2.out (by decide) (H2.out.later (show G wr _ by (repeat' (first | (with_reducible exact G.refl _) | (with_reducible assumption) | (with_reducible refine G.drewN ?_ _) | (with_reducible refine G.drew ?_) | (with_reducible refine G.alloc ?_ _) | (with_reducible refine G.setCell ?_ (by first | (with_reducible exact Nat.le_refl _) | (simp; done) | (simp; omega) | omega) _) | (with_reducible refine G.trans ?_ (by assumption))))))).mono ?_
        rintro e w3 ⟨rfl, hG3⟩
        have g3 : G w w3 := gr.trans (G.trans (by (repeat' (first | (with_reducible exact G.refl _) | (with_reducible refine G.drewN ?_ _) | (with_reducible refine G.drew ?_) | (with_reducible refine G.alloc ?_ _)))) hG3)
        rw [HCK.out]
        go_wp2_with fail
        refine (known_any _ (HT.out.later (g3.trans (by (repeat' (first | (with_reducible exact G.refl _) | (with_reducible assumption) | (with_reducible refine G.drewN ?_ _) | (with_reducible refine G.drew ?_) | (with_reducible refine G.alloc ?_ _) | (with_reducible refine G.setCell ?_ (by first | (with_reducible exact Nat.le_refl _) | (simp; done) | (simp; omega) | omega) _) | (with_reducible refine G.trans ?_ (by assumption)))))))).mono ?_
        rintro e w4 ⟨rfl, hG4⟩
        have g4 : G w w4 := g3.trans (G.trans (by (repeat' (first | (with_reducible exact G.refl _) | (with_reducible refine G.drewN ?_ _) | (with_reducible refine G.drew ?_) | (with_reducible refine G.alloc ?_ _)))) hG4)
        go_wp2_with fail
        go_ret
        exact ⟨by first | done | rfl | simp, g4.trans (by (repeat' (first | (with_reducible exact G.refl _) | (with_reducible assumption) | (with_reducible refine G.drewN ?_ _) | (with_reducible refine G.drew ?_) | (with_reducible refine G.alloc ?_ _) | (with_reducible refine G.setCell ?_ (by first | (with_reducible exact Nat.le_refl _) | (simp; done) | (simp; omega) | omega) _) | (with_reducible refine G.trans ?_ (by assumption)))))⟩
  · have HCK := Lib.hid (show ckS (limL (1 + a % 7) 4097) = (4096, 9) from lim_over _)
    go_enter Tryd.func12, Tryd.ntmps12
    go_wp2_with fail
    go_loopg [6, 7] 4097 (fun q y x wr => ∃ (i : Nat) (v : Value), v = y ∧ x = .int .i64 i ∧ q = 4097 - i ∧ i ≤ 4097 ∧ Hid (Row spE 31 9 w.heap.size wr v (limL (1 + a % 7) i)) ∧ G w wr)
    case atStart => exact ⟨0, _, rfl, rfl, by omega, by omega, Lib.hid (by simpa [limL] using Row.nil (enc := spE) w), by (repeat' (first | (with_reducible exact G.refl _) | (with_reducible assumption) | (with_reducible refine G.drewN ?_ _) | (with_reducible refine G.drew ?_) | (with_reducible refine G.alloc ?_ _) | (with_reducible refine G.setCell ?_ (by first | (with_reducible exact Nat.le_refl _) | (simp; done) | (simp; omega) | omega) _) | (with_reducible refine G.trans ?_ (by assumption))))⟩
    case round =>
      obtain ⟨i, v, rfl, rfl, hq, hi', hR, gr⟩ := hrel
      have HQ := Lib.hid hq
      clear hq
      by_cases hin : i < 4097
      · have HX := Lib.hid (limL_more (1 + a % 7) i)
        have HLT := Lib.hid (limL_len (1 + a % 7) i)
        have b1 : (0 : Int) ≤ (i : Int) := by omega
        have b2 : (i : Int) < 4097 := by omega
        have q3 := IntWalk.i64_in ((i : Int) + 1) (by omega)
        have q4 := IntWalk.i64_in (2 * ((i : Int) / 128)) (by omega)
        have q5 := IntWalk.i64_in (2 * ((i : Int) / 128) + 1) (by omega)
        have hsz := gr.size
        go_wp2_with (at_builtin; refine wpList_append_own _ rfl _ _ 43 rfl w.heap.size 31 i0 (.agg #[.int .i64 0, .int .i64 0, .int .i64 0, .int .i64 0, .int .i64 0, .int .i64 0, .int .i64 0, .int .i64 0, .int .i64 0]) 9 72 Tryd.underlying43 hi0 hz0 hz1 hz2 rfl (by decide) v (limL (1 + a % 7) i).length ((limL (1 + a % 7) i).flatMap spE) rfl (hR.out.later (by (repeat' (first | (with_reducible exact G.refl _) | (with_reducible assumption) | (with_reducible refine G.drewN ?_ _) | (with_reducible refine G.drew ?_) | (with_reducible refine G.alloc ?_ _) | (with_reducible refine G.setCell ?_ (by first | (with_reducible exact Nat.le_refl _) | (simp; done) | (simp; omega) | omega) _) | (with_reducible refine G.trans ?_ (by assumption)))))) ⟨wr.heap.size, 0, none⟩ 1 1 [.int .i64 (1 + a % 7), .int .i64 0, .int .i64 (2 * ((i : Int) / 128)), .int .i64 ((i : Int) % 128), .int .i64 0, .int .i64 0, .int .i64 (2 * ((i : Int) / 128) + 1), .int .i64 ((i : Int) % 128), .int .i64 0] rfl rfl (new_add _ _ [.int .i64 (1 + a % 7), .int .i64 0, .int .i64 (2 * ((i : Int) / 128)), .int .i64 ((i : Int) % 128), .int .i64 0, .int .i64 0, .int .i64 (2 * ((i : Int) / 128) + 1), .int .i64 ((i : Int) % 128), .int .i64 0] _ (by simp)) (by simp [Value.oneCell']) (by unfold maxLen; rw [HLT.out]; omega) (by rw [HLT.out]; omega) (by simp; omega) ?_; intro v' w6 hown' hgrow _)
        have RN := Lib.hid (Row.more (enc := spE) (M := limL (1 + a % 7) i) (x := limE (1 + a % 7) i) hown')
        have gN : G w w6 := Below.grown (B := w.heap.size) (show G w _ by (repeat' (first | (with_reducible exact G.refl _) | (with_reducible assumption) | (with_reducible refine G.drewN ?_ _) | (with_reducible refine G.drew ?_) | (with_reducible refine G.alloc ?_ _) | (with_reducible refine G.setCell ?_ (by first | (with_reducible exact Nat.le_refl _) | (simp; done) | (simp; omega) | omega) _) | (with_reducible refine G.trans ?_ (by assumption))))) hgrow (by simp; omega) (fun k hk => hR.out.own k hk)
        go_roundg (4097 - (i + 1))
        case measure => have := HQ.out; omega
        case rel => exact ⟨i + 1, v', rfl, by first | rfl | simp, rfl, by omega, Lib.hid (by rw [HX.out]; exact RN.out), gN⟩
      · have hii : i = 4097 := by omega
        subst hii
        obtain ⟨a2, c2, rfl, hc2, hT2⟩ := hR.out.sps
        rw [limL_len] at hc2 ⊢
        have H2 := Lib.hid hT2
        have HC2 := Lib.hid hc2
        have HN := Lib.hid (limL_len (1 + a % 7) 4097)
        clear hR hT2 hc2
        go_wp2_with fail
        refine (sCheck_any a2 (limL (1 + a % 7) 4097) 4097 c2 _ HN.out HC2.out (by decide) (H2.out.later (show G wr _ by (repeat' (first | (with_reducible exact G.refl _) | (with_reducible assumption) | (with_reducible refine G.drewN ?_ _) | (with_reducible refine G.drew ?_) | (with_reducible refine G.alloc ?_ _) | (with_reducible refine G.setCell ?_ (by first | (with_reducible exact Nat.le_refl _) | (simp; done) | (simp; omega) | omega) _) | (with_reducible refine G.trans ?_ (by assumption))))))).mono ?_
        rintro e w3 ⟨rfl, hG3⟩
        have g3 : G w w3 := gr.trans (G.trans (by (repeat' (first | (with_reducible exact G.refl _) | (with_reducible refine G.drewN ?_ _) | (with_reducible refine G.drew ?_) | (with_reducible refine G.alloc ?_ _)))) hG3)
        rw [HCK.out]
        go_wp2_with fail
        refine (known_any _ (HT.out.later (g3.trans (by (repeat' (first | (with_reducible exact G.refl _) | (with_reducible assumption) | (with_reducible refine G.drewN ?_ _) | (with_reducible refine G.drew ?_) | (with_reducible refine G.alloc ?_ _) | (with_reducible refine G.setCell ?_ (by first | (with_reducible exact Nat.le_refl _) | (simp; done) | (simp; omega) | omega) _) | (with_reducible refine G.trans ?_ (by assumption)))))))).mono ?_
        rintro e w4 ⟨rfl, hG4⟩
        have g4 : G w w4 := g3.trans (G.trans (by (repeat' (first | (with_reducible exact G.refl _) | (with_reducible refine G.drewN ?_ _) | (with_reducible refine G.drew ?_) | (with_reducible refine G.alloc ?_ _)))) hG4)
        go_wp2_with fail
        go_ret
        exact ⟨by first | done | rfl | simp, g4.trans (by (repeat' (first | (with_reducible exact G.refl _) | (with_reducible assumption) | (with_reducible refine G.drewN ?_ _) | (with_reducible refine G.drew ?_) | (with_reducible refine G.alloc ?_ _) | (with_reducible refine G.setCell ?_ (by first | (with_reducible exact Nat.le_refl _) | (simp; done) | (simp; omega) | omega) _) | (with_reducible refine G.trans ?_ (by assumption)))))⟩

/-! ### the row and the card -/
open Go.ChangeShapes Go.WideShapes Go.ChangeAt Go.RowKit
set_option maxRecDepth 100000 in
theorem spannerLimit_lifted (os : Os) (started : os.Started) (H : Type) (enc : TypeId × Value → H) :
    ReturnsInHanded {} Tryd.checked os 12 .any (fun w args => (Rows.spannerLimitSpec.pre enc Tryd.prog Tryd.f12 [] false w args ∧ laidMetH Tryd.prog laidL w) ∧ sizedMet enc Tryd.prog Tryd.f12 (OpenSpec.ofChange Rows.spannerLimitSpec) false w args)
      (Rows.spannerLimitSpec.post enc Tryd.prog Tryd.f12 false true false false) := by
  refine returnsInHanded_of_change_and (C := Tryd.checked) (X := fun w _ => laidMetH Tryd.prog laidL w) (fun _ _ _ hh h => h.of_heap hh) own started (by kernel_rfl) Tryd.func12
    (ChangeSpec.witness_shaped (enc := enc) (C := Tryd.checked) (os := os) (X := fun w _ => laidMetH Tryd.prog laidL w) false (World.laidAll Tryd.prog os laidL) #[.bool false, .int .u8 0] 8 (World.laidAll_os _ _ _) (shapedL os) (by kernel_rfl) (by kernel_rfl) (by kernel_rfl) (laid_met os _)) ?_
  intro W base args ds gs before hval0 hW _ _ hL _
  have hval : ∀ (j : Nat) t v, Tryd.f12.params[j]? = some t → args[j]? = some v → Value.okWide Tryd.prog W .any base t v := hval0
  have hW' := hW
  obtain ⟨p, q, hA0, hV, rfl, hfz, hnd⟩ := hW
  have hA : DataW.TrodAll enc Tryd.prog W 0 (fun _ => true) true Tryd.f12.params.toList args.toList ds p := hA0
  rw [Tryd.params12] at hA hval
  obtain ⟨v0, vs0, d0, ds0, p0, q0, hargs, rfl, rfl, h0, r0⟩ := trodAll_cons hA
  obtain ⟨v1, vs1, d1, ds1, p1, q1, rfl, rfl, rfl, h1, r1⟩ := trodAll_cons r0
  obtain ⟨rfl, rfl, rfl⟩ := trodAll_nil r1
  obtain rfl : args = #[v0, v1] := by cases args; simp_all
  obtain ⟨rfl, rfl⟩ := trodVars_none hV
  obtain ⟨a0, rfl, rfl, rfl⟩ := open_bool Tryd.underlying4 (hval 0 4 v0 rfl rfl) h0
  obtain ⟨a1, rfl, rfl, rfl, w1⟩ := open_int Tryd.underlying5 (hval 1 5 v1 rfl rfl) h1
  obtain ⟨bl1, bh1⟩ := bounds_u8 w1
  clear hA0 hval0
  simp only [List.append_nil] at hW'
  refine (limit_walk a0 a1 W  bl1 bh1  (tab_of_laid hL)).mono fun e W' ⟨he, hg⟩ => ?_
  subst he
  exact ⟨_, rfl, _, _, _, [], [], [], hW', (trodAll_cons_mk (shut_bool Tryd.underlying4 _) trodAll_mk0), (trodAll_cons_mk (shut_bool Tryd.underlying4 _) (trodAll_cons_mk (shut_int Tryd.underlying5 w1) trodAll_mk0)), rfl, Below.frame hg _, fun h => by cases h⟩

theorem spannerLimit_holds : Rows.SpannerLimitSaid :=
  OpenClaim.holds_of_wide 12 Tryd.f12 rfl rfl rfl rfl rfl rfl rfl ⟨rfl, rfl, rfl, rfl, rfl⟩ rfl rfl rfl rfl rfl (by kernel_rfl) Tryd.func12 (by kernel_rfl)
    (of_decide_eq_true (by kernel_rfl)) (by unfold Func.isWrapper; first | (rw [if_pos (by decide +kernel)]; kernel_rfl) | (rw [if_neg (by decide +kernel)]; exact ⟨rfl, rfl⟩))
    (fun os started H enc _ => spannerLimit_lifted os started H enc)

theorem spannerLimit_card : Rows.SpannerLimitCardSaid :=
  Claim7.holds_tied_plain_at .later [] [.data] true (true, "104533d283153e89540ccca5515efbc3b9ab0fd0357c0cc46ac89a8b2fd1ff52") false
    spannerLimit_holds (fun _ h => by cases h) (by kernel_rfl) (fun _ h => by cases h) spannerLimit_row_tie rfl ⟨rfl, rfl⟩ (by kernel_rfl) rfl
    (fun f fn hf hfn => by
      obtain rfl : f = 12 := Option.some.inj ((show Tryd.prog.funcNamed "hemiola/hemiolalaw14.SpannerLimit" = some 12 by kernel_rfl).symm.trans hf) |>.symm
      obtain rfl : fn = Tryd.f12 := (Option.some.inj (Tryd.func12.symm.trans hfn)).symm
      exact ⟨by kernel_rfl, fun j t ht => by
        rw [Tryd.params12] at ht
        have hm : t ∈ [4, 5] := by simpa using Array.mem_of_getElem? ht
        have hall : ([4, 5].all fun u => !Tryd.prog.wantsStandIn u) = true := by kernel_rfl
        exact (show Tryd.prog.wantsStandIn t = false by simpa using List.all_eq_true.1 hall t hm)⟩)
    (by kernel_rfl)
#print axioms spannerLimit_card
end Go.Proofs.YtgepjpbdfjcaaaaDoor
