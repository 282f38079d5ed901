/- SpannerNests: in any list of up to 12 spans that Check accepts, of two slurs of the same voice that cover a place between their ends, one lies within the other one, and at most one octave line covers a place; the arguments read as before; no further condition than the laid table. -/
import Derived.Test.YtgepjpbdfjcaaaaDoorRows
import Derived.Test.YtgepjpbdfjcaaaaDoorNe1
import Derived.Test.YtgepjpbdfjcaaaaDoorNe2
import Derived.Test.YtgepjpbdfjcaaaaDoorNe3
import Derived.Test.YtgepjpbdfjcaaaaDoorNe4
import Derived.Test.YtgepjpbdfjcaaaaDoorNe5
import Derived.Test.YtgepjpbdfjcaaaaDoorKnown
import Derived.Test.YtgepjpbdfjcaaaaDoorS4
import Derived.Test.YtgepjpbdfjcaaaaDoorS10
import Derived.Test.YtgepjpbdfjcaaaaDoorS13
import Derived.Test.YtgepjpbdfjcaaaaDoorS15
import Derived.Test.YtgepjpbdfjcaaaaDoorLaid
namespace Go.Proofs.YtgepjpbdfjcaaaaDoor
open Go.RowKit Go.ChangeShapes Go.WideShapes
attribute [local go_sem] World.cell?_alloc_some

set_option maxRecDepth 100000 in
set_option maxHeartbeats 25600000 in
theorem nests_loop (a : Option Addr) (l : List Sp) (n c : Nat) (p : Pl) (w : World) (hn : l.length = n) (hl : n ≤ 12) (h1 : SpsAt w a l) (hT : Tab w) :
    Calls Tryd.prog 7 #[.slice a n c, .agg #[.int .i64 p.m, .int .i64 p.a, .int .i64 p.s, .int .i64 p.v]] w fun e w' => e = .returned (.bool true) ∧ G w w' := by
  subst hn
  have HT := Lib.hid hT
  have H1 := Lib.hid h1
  have HL := Lib.hid hl
  have m1 : (l.length : Int) ≤ 12 := by omega
  have m2 : ¬ (12 < (l.length : Int)) := by omega
  clear hT h1 hl
  have gw : ∀ {W : World}, G (w.alloc (.cells #[.int .i64 p.m, .int .i64 p.a, .int .i64 p.s, .int .i64 p.v] 23)) W → G w W := fun g => G.trans (G.alloc (G.refl w) _) g
  go_enter Tryd.func7, Tryd.ntmps7
  go_wp2_with fail
  refine (known_any _ (HT.out.later (by (repeat' (first | (with_reducible exact G.refl _) | (with_reducible assumption) | (with_reducible refine G.drewN ?_ _) | (with_reducible refine G.drew ?_) | (with_reducible refine G.alloc ?_ _) | (with_reducible refine G.setCell ?_ (by first | (with_reducible exact Nat.le_refl _) | (simp; done) | (simp; omega) | omega) _) | (with_reducible refine G.trans ?_ (by assumption))))))).mono ?_
  rintro e w1 ⟨rfl, hG1⟩
  go_wp2_with fail
  refine (list_any a l _ c _ rfl (by have := HL.out; omega) (H1.out.later (gw hG1))).mono ?_
  rintro e w2 ⟨v, rfl, hR, hG2⟩
  have g2 := hG1.trans (G.trans (by (repeat' (first | (with_reducible exact G.refl _) | (with_reducible refine G.drewN ?_ _) | (with_reducible refine G.drew ?_) | (with_reducible refine G.alloc ?_ _)))) hG2)
  obtain ⟨a2, c2, rfl, hc2, hT2⟩ := hR.sps
  have H2 := Lib.hid hT2
  have HC2 := Lib.hid hc2
  clear hR hT2 hc2
  go_wp2_with fail
  refine (sCheck_any a2 l _ c2 _ rfl HC2.out (by have := HL.out; omega) (H2.out.later (show G w2 _ by (repeat' (first | (with_reducible exact G.refl _) | (with_reducible assumption) | (with_reducible refine G.drewN ?_ _) | (with_reducible refine G.drew ?_) | (with_reducible refine G.alloc ?_ _) | (with_reducible refine G.setCell ?_ (by first | (with_reducible exact Nat.le_refl _) | (simp; done) | (simp; omega) | omega) _) | (with_reducible refine G.trans ?_ (by assumption))))))).mono ?_
  rintro e w3 ⟨rfl, hG3⟩
  have gp0 := g2.trans (G.trans (by (repeat' (first | (with_reducible exact G.refl _) | (with_reducible refine G.drewN ?_ _) | (with_reducible refine G.drew ?_) | (with_reducible refine G.alloc ?_ _)))) hG3)
  obtain ⟨X, hX⟩ : ∃ z : Int, Hid ((ckS l).1 = z) := ⟨_, rfl⟩
  obtain ⟨E, hE⟩ : ∃ z : Int, Hid ((ckS l).2 = z) := ⟨_, rfl⟩
  rw [hX.out, hE.out]
  by_cases hE0 : E = 0
  rotate_left
  · have e3 : (E == 0) = false := beq_false_of_ne hE0
    have e4 : (E != 0) = true := by simp [bne, e3]
    clear hE0
    go_wp2_with fail
    go_ret
    exact ⟨by first | done | rfl | simp, gw gp0⟩
  have HCK := Lib.hid ((ckS_ok (l := l) (by have := HL.out; omega)).1 (by rw [hE.out]; exact hE0))
  subst hE0
  have HON := Lib.hid (oct_one (p := p) HCK.out.2)
  go_wp2_with fail
  go_loopg [7, 8] l.length (fun q y k wr => ∃ (i : Nat) (D : Nat), y = .int .i64 D ∧ k = .int .i64 i ∧ q = l.length - i ∧ i ≤ l.length ∧ D ≤ i ∧ Hid (octN p (l.take i) = D) ∧ Hid (G (w.alloc (.cells #[.int .i64 p.m, .int .i64 p.a, .int .i64 p.s, .int .i64 p.v] 23)) wr))
  case atStart => exact ⟨0, 0, rfl, rfl, rfl, by omega, by omega, Lib.hid rfl, Lib.hid (by (repeat' (first | (with_reducible exact G.refl _) | (with_reducible assumption) | (with_reducible refine G.drewN ?_ _) | (with_reducible refine G.drew ?_) | (with_reducible refine G.alloc ?_ _) | (with_reducible refine G.setCell ?_ (by first | (with_reducible exact Nat.le_refl _) | (simp; done) | (simp; omega) | omega) _) | (with_reducible refine G.trans ?_ (by assumption)))))⟩
  case round =>
    obtain ⟨i, D, rfl, rfl, hq, hi, hDi, hO, gr⟩ := hrel
    have HQ := Lib.hid hq
    clear hq
    by_cases hin : i < l.length
    · obtain ⟨x, hp⟩ : ∃ z, l[i]? = some z := ⟨l[i], List.getElem?_eq_getElem hin⟩
      rcases H1.out with hz | ⟨b0, of, rfl, fc⟩
      · rw [hz] at hin; exact absurd hin (by simp)
      have FC := Lib.hid fc
      have gp := gr.out
      obtain ⟨x0, x1, x2, x3, x4, x5, x6, x7, x8⟩ := (fc i _ hp).later (gw gp)
      obtain ⟨z0, z1, z2, z3⟩ := B4.made rfl gp
      have HP := Lib.hid hp
      have HON1 := Lib.hid (oct_next (p := p) hp)
      have b1 : (0 : Int) ≤ (i : Int) := by omega
      have b2 : (i : Int) < (l.length : Int) := by omega
      have q1 := IntWalk.i64_in ((i : Int) + 1) (by omega)
      have q2 := IntWalk.i64_in ((D : Int) + 1) (by omega)
      obtain ⟨cx, hcx⟩ : ∃ z : Bool, Hid (z = decide (Cov x p)) := ⟨_, rfl⟩
      have HIN := Lib.hid hin
      clear fc hp
      by_cases k4 : x.k = 4
      · by_cases hcv : Cov x p
        · have HNX := Lib.hid (show octN p (l.take (i + 1)) = D + 1 by rw [HON1.out, if_pos ⟨.inl k4, hcv⟩, hO.out])
          refine nests_r4t _ _ _ _ _ _ _ _ _ _ _ _ _ _ _ _ _ _ _ _ _ _ _ _ _ _ _ _ _ _ _ _ _ _ _ _ _ _ _ _ _ _ _ _ _ _ _ _ _ _ _ _ _ _ _ _ _ _ _ _ _ _ _ _ _ _ _ _ _ _ _ _ _ _ _ _ _ _ _ _ _ _ _ _ _ _ _ _ _ _ _ _ _ _ _ _ _ _ _ _ _ _ _ _ _ _ _ _ _ _ _ _ _ _ _ _ _ _ _ _ _ _ _ _ _ _ _ _ _ _ _ _ l c b0 of i D p w wr x HL.out FC.out HP.out HCK.out.2 gp hDi k4 (decide_eq_true hcv) ?_
          intros
          rename_i wz hGz
          try go_wp2_with fail
          go_roundg (l.length - (i + 1))
          case measure => have := HQ.out; omega
          case rel => exact ⟨i + 1, D + 1, by go_num, by go_num, rfl, by omega, by omega, HNX, Lib.hid hGz⟩
        · have HNX := Lib.hid (show octN p (l.take (i + 1)) = D by rw [HON1.out, if_neg (fun h => hcv h.2), hO.out])
          refine nests_r4f _ _ _ _ _ _ _ _ _ _ _ _ _ _ _ _ _ _ _ _ _ _ _ _ _ _ _ _ _ _ _ _ _ _ _ _ _ _ _ _ _ _ _ _ _ _ _ _ _ _ _ _ _ _ _ _ _ _ _ _ _ _ _ _ _ _ _ _ _ _ _ _ _ _ _ _ _ _ _ _ _ _ _ _ _ _ _ _ _ _ _ _ _ _ _ _ _ _ _ _ _ _ _ _ _ _ _ _ _ _ _ _ _ _ _ _ _ _ _ _ _ _ _ _ _ _ _ _ _ _ _ _ l c b0 of i D p w wr x HL.out FC.out HP.out HCK.out.2 gp hDi k4 (decide_eq_false hcv) ?_
          intros
          rename_i wz hGz
          try go_wp2_with fail
          go_roundg (l.length - (i + 1))
          case measure => have := HQ.out; omega
          case rel => exact ⟨i + 1, D, by go_num, by go_num, rfl, by omega, by omega, HNX, Lib.hid hGz⟩
      by_cases k5 : x.k = 5
      · by_cases hcv : Cov x p
        · have HNX := Lib.hid (show octN p (l.take (i + 1)) = D + 1 by rw [HON1.out, if_pos ⟨.inr k5, hcv⟩, hO.out])
          refine nests_r5t _ _ _ _ _ _ _ _ _ _ _ _ _ _ _ _ _ _ _ _ _ _ _ _ _ _ _ _ _ _ _ _ _ _ _ _ _ _ _ _ _ _ _ _ _ _ _ _ _ _ _ _ _ _ _ _ _ _ _ _ _ _ _ _ _ _ _ _ _ _ _ _ _ _ _ _ _ _ _ _ _ _ _ _ _ _ _ _ _ _ _ _ _ _ _ _ _ _ _ _ _ _ _ _ _ _ _ _ _ _ _ _ _ _ _ _ _ _ _ _ _ _ _ _ _ _ _ _ _ _ _ _ l c b0 of i D p w wr x HL.out FC.out HP.out HCK.out.2 gp hDi k5 (decide_eq_true hcv) ?_
          intros
          rename_i wz hGz
          try go_wp2_with fail
          go_roundg (l.length - (i + 1))
          case measure => have := HQ.out; omega
          case rel => exact ⟨i + 1, D + 1, by go_num, by go_num, rfl, by omega, by omega, HNX, Lib.hid hGz⟩
        · have HNX := Lib.hid (show octN p (l.take (i + 1)) = D by rw [HON1.out, if_neg (fun h => hcv h.2), hO.out])
          refine nests_r5f _ _ _ _ _ _ _ _ _ _ _ _ _ _ _ _ _ _ _ _ _ _ _ _ _ _ _ _ _ _ _ _ _ _ _ _ _ _ _ _ _ _ _ _ _ _ _ _ _ _ _ _ _ _ _ _ _ _ _ _ _ _ _ _ _ _ _ _ _ _ _ _ _ _ _ _ _ _ _ _ _ _ _ _ _ _ _ _ _ _ _ _ _ _ _ _ _ _ _ _ _ _ _ _ _ _ _ _ _ _ _ _ _ _ _ _ _ _ _ _ _ _ _ _ _ _ _ _ _ _ _ _ l c b0 of i D p w wr x HL.out FC.out HP.out HCK.out.2 gp hDi k5 (decide_eq_false hcv) ?_
          intros
          rename_i wz hGz
          try go_wp2_with fail
          go_roundg (l.length - (i + 1))
          case measure => have := HQ.out; omega
          case rel => exact ⟨i + 1, D, by go_num, by go_num, rfl, by omega, by omega, HNX, Lib.hid hGz⟩
      · have HNX := Lib.hid (show octN p (l.take (i + 1)) = D by rw [HON1.out, if_neg (fun h => by have := h.1; omega), hO.out])
        refine nests_rS _ _ _ _ _ _ _ _ _ _ _ _ _ _ _ _ _ _ _ _ _ _ _ _ _ _ _ _ _ _ _ _ _ _ _ _ _ _ _ _ _ _ _ _ _ _ _ _ _ _ _ _ _ _ _ _ _ _ _ _ _ _ _ _ _ _ _ _ _ _ _ _ _ _ _ _ _ _ _ _ _ _ _ _ _ _ _ _ _ _ _ _ _ _ _ _ _ _ _ _ _ _ _ _ _ _ _ _ _ _ _ _ _ _ _ _ _ _ _ _ _ _ _ _ _ _ _ _ _ _ _ _ l c b0 of i D p w wr x HL.out FC.out HP.out HCK.out.2 gp hDi k4 k5 ?_
        intros
        rename_i wz hGz
        try go_wp2_with fail
        go_roundg (l.length - (i + 1))
        case measure => have := HQ.out; omega
        case rel => exact ⟨i + 1, D, by go_num, by go_num, rfl, by omega, by omega, HNX, Lib.hid hGz⟩
    · have hii : i = l.length := by omega
      subst hii
      have HD := Lib.hid (show D ≤ 1 by have h := HON.out; rw [← hO.out, List.take_length]; exact h)
      have d1 : (D : Int) ≤ 1 := by have := HD.out; omega
      go_wp2_with fail
      go_ret
      exact ⟨by first | done | rfl | simp, gw gr.out⟩
set_option maxRecDepth 100000 in
set_option maxHeartbeats 12800000 in
theorem nests_walk (a : Option Addr) (l : List Sp) (c : Nat) (p : Pl) (w : World) (_ : l.length ≤ c) (_ : c ≤ maxLen) (h1 : SpsAt w a l) (_ : a = none → c = 0) (_ : ∀ n ∈ l, WfS n) (_ : WfP p) (hT : Tab w) :
    Calls Tryd.prog 7 #[.slice a l.length c, .agg #[.int .i64 p.m, .int .i64 p.a, .int .i64 p.s, .int .i64 p.v]] w fun e w' => e = .returned (.bool true) ∧ G w w' := by
  by_cases k12 : l.length ≤ 12
  · exact nests_loop a l _ c p w rfl k12 h1 hT
  · obtain ⟨n, hn⟩ : ∃ z : Nat, Hid (l.length = z) := ⟨_, rfl⟩
    rw [hn.out] at k12 ⊢
    have m3 : (12 : Int) < (n : Int) := by omega
    have HT := Lib.hid hT
    clear k12 hT h1
    go_enter Tryd.func7, Tryd.ntmps7
    go_wp2_with fail
    refine (known_any _ (HT.out.later (by (repeat' (first | (with_reducible exact G.refl _) | (with_reducible assumption) | (with_reducible refine G.drewN ?_ _) | (with_reducible refine G.drew ?_) | (with_reducible refine G.alloc ?_ _) | (with_reducible refine G.setCell ?_ (by first | (with_reducible exact Nat.le_refl _) | (simp; done) | (simp; omega) | omega) _) | (with_reducible refine G.trans ?_ (by assumption))))))).mono ?_
    rintro e w1 ⟨rfl, hG1⟩
    have g1 : G w w1 := G.trans (by (repeat' (first | (with_reducible exact G.refl _) | (with_reducible refine G.drewN ?_ _) | (with_reducible refine G.drew ?_) | (with_reducible refine G.alloc ?_ _)))) hG1
    go_wp2_with fail
    refine (known_any _ (HT.out.later (g1.trans (by (repeat' (first | (with_reducible exact G.refl _) | (with_reducible assumption) | (with_reducible refine G.drewN ?_ _) | (with_reducible refine G.drew ?_) | (with_reducible refine G.alloc ?_ _) | (with_reducible refine G.setCell ?_ (by first | (with_reducible exact Nat.le_refl _) | (simp; done) | (simp; omega) | omega) _) | (with_reducible refine G.trans ?_ (by assumption)))))))).mono ?_
    rintro e w2 ⟨rfl, hG2⟩
    go_wp2_with fail
    go_ret
    exact ⟨by first | done | rfl | simp, g1.trans (G.trans (by (repeat' (first | (with_reducible exact G.refl _) | (with_reducible refine G.drewN ?_ _) | (with_reducible refine G.drew ?_) | (with_reducible refine G.alloc ?_ _)))) hG2)⟩

/-! ### the row and the card -/
open Go.ChangeShapes Go.WideShapes Go.ChangeAt Go.RowKit
set_option maxRecDepth 100000 in
theorem spannerNests_lifted (os : Os) (started : os.Started) (H : Type) (enc : TypeId × Value → H) :
    ReturnsInHanded {} Tryd.checked os 7 .any (fun w args => (Rows.spannerNestsSpec.pre enc Tryd.prog Tryd.f7 [] false w args ∧ laidMetH Tryd.prog laidL w) ∧ sizedMet enc Tryd.prog Tryd.f7 (OpenSpec.ofChange Rows.spannerNestsSpec) false w args)
      (Rows.spannerNestsSpec.post enc Tryd.prog Tryd.f7 false true false false) := by
  refine returnsInHanded_of_change_and (C := Tryd.checked) (X := fun w _ => laidMetH Tryd.prog laidL w) (fun _ _ _ hh h => h.of_heap hh) own started (by kernel_rfl) Tryd.func7
    (ChangeSpec.witness_shaped (enc := enc) (C := Tryd.checked) (os := os) (X := fun w _ => laidMetH Tryd.prog laidL w) false (World.laidAll Tryd.prog os laidL) #[.slice none 0 0, .agg #[.int .i64 0, .int .i64 0, .int .i64 0, .int .i64 0]] 8 (World.laidAll_os _ _ _) (shapedL os) (by kernel_rfl) (by kernel_rfl) (by kernel_rfl) (laid_met os _)) ?_
  intro W base args ds gs before hval0 hW _ _ hL _
  have hval : ∀ (j : Nat) t v, Tryd.f7.params[j]? = some t → args[j]? = some v → Value.okWide Tryd.prog W .any base t v := hval0
  have hW' := hW
  obtain ⟨p, q, hA0, hV, rfl, hfz, hnd⟩ := hW
  have hA : DataW.TrodAll enc Tryd.prog W 0 (fun _ => true) true Tryd.f7.params.toList args.toList ds p := hA0
  rw [Tryd.params7] at hA hval
  obtain ⟨v0, vs0, d0, ds0, p0, q0, hargs, rfl, rfl, h0, r0⟩ := trodAll_cons hA
  obtain ⟨v1, vs1, d1, ds1, p1, q1, rfl, rfl, rfl, h1, r1⟩ := trodAll_cons r0
  obtain ⟨rfl, rfl, rfl⟩ := trodAll_nil r1
  obtain rfl : args = #[v0, v1] := by cases args; simp_all
  obtain ⟨rfl, rfl⟩ := trodVars_none hV
  have keep0 := h0
  obtain ⟨a0, cap0, l0, rfl, lc0, mc0, la0, wf0, lz0⟩ := open_spsArg (hval 0 40 v0 rfl rfl) h0
  have keep1 := h1
  obtain ⟨x1, rfl, wf1⟩ := open_pArg (hval 1 23 v1 rfl rfl) h1
  clear hA0 hval0
  simp only [List.append_nil] at hW'
  have hlt0 : ∀ x ∈ p0, x.block < W.heap.size := fun x hx => by have := hW'.lt x (by simp [hx]); simpa using this
  have hlt1 : ∀ x ∈ p1, x.block < W.heap.size := fun x hx => by have := hW'.lt x (by simp [hx]); simpa using this
  refine (nests_walk a0 l0 cap0 x1 W lc0 mc0 la0 lz0 wf0 wf1  (tab_of_laid hL)).mono fun e W' ⟨he, hg⟩ => ?_
  subst he
  exact ⟨_, rfl, _, _, _, [], (p0 ++ (p1 ++ [])), [], hW', (trodAll_cons_mk (shut_bool Tryd.underlying4 _) trodAll_mk0), (trodAll_cons_mk (Below.trod (by kernel_rfl) (by kernel_rfl) (of_decide_eq_true (by kernel_rfl)) keep0 hg hlt0) (trodAll_cons_mk (Below.trod (by kernel_rfl) (by kernel_rfl) (of_decide_eq_true (by kernel_rfl)) keep1 hg hlt1) trodAll_mk0)), rfl, Below.frame hg _, fun h => by cases h⟩

theorem spannerNests_holds : Rows.SpannerNestsSaid :=
  OpenClaim.holds_of_wide 7 Tryd.f7 rfl rfl rfl rfl rfl rfl rfl ⟨rfl, rfl, rfl, rfl, rfl⟩ rfl rfl rfl rfl rfl (by kernel_rfl) Tryd.func7 (by kernel_rfl)
    (of_decide_eq_true (by kernel_rfl)) (by unfold Func.isWrapper; first | (rw [if_pos (by decide +kernel)]; kernel_rfl) | (rw [if_neg (by decide +kernel)]; exact ⟨rfl, rfl⟩))
    (fun os started H enc _ => spannerNests_lifted os started H enc)

theorem spannerNests_card : Rows.SpannerNestsCardSaid :=
  Claim7.holds_tied_plain_at .later [] [.data] true (true, "104533d283153e89540ccca5515efbc3b9ab0fd0357c0cc46ac89a8b2fd1ff52") false
    spannerNests_holds (fun _ h => by cases h) (by kernel_rfl) (fun _ h => by cases h) spannerNests_row_tie rfl ⟨rfl, rfl⟩ (by kernel_rfl) rfl
    (fun f fn hf hfn => by
      obtain rfl : f = 7 := Option.some.inj ((show Tryd.prog.funcNamed "hemiola/hemiolalaw14.SpannerNests" = some 7 by kernel_rfl).symm.trans hf) |>.symm
      obtain rfl : fn = Tryd.f7 := (Option.some.inj (Tryd.func7.symm.trans hfn)).symm
      exact ⟨by kernel_rfl, fun j t ht => by
        rw [Tryd.params7] at ht
        have hm : t ∈ [40, 23] := by simpa using Array.mem_of_getElem? ht
        have hall : ([40, 23].all fun u => !Tryd.prog.wantsStandIn u) = true := by kernel_rfl
        exact (show Tryd.prog.wantsStandIn t = false by simpa using List.all_eq_true.1 hall t hm)⟩)
    (by kernel_rfl)
#print axioms spannerNests_card
end Go.Proofs.YtgepjpbdfjcaaaaDoor
