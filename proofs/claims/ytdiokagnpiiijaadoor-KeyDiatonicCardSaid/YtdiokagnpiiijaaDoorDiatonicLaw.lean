/- KeyDiatonic: for every number and every octave, the pitches of the scale are diatonic and have the degrees 0 to 6, seven pitch classes are diatonic in all, and where there is no scale the error is returned; the arguments read as before; the tables that the row lists are tied to the program text; no further condition. -/
import Derived.Test.YtdiokagnpiiijaaDoorKnown
import Derived.Test.YtdiokagnpiiijaaDoorLaid
import Derived.Test.YtdiokagnpiiijaaDoorDeg
namespace Go.Proofs.YtdiokagnpiiijaaDoor
open Go.RowKit
attribute [local go_sem] World.cell?_alloc_some

theorem scF_casesD (f : Int) (m : Bool) (o : Int) (hf : Sg f) : (scF f m o = [] ∧ scE f m o = 18) ∨ (okO (tS (f + mi m)) o ∧ scF f m o = scL f (tS (f + mi m)) o 7 ∧ scE f m o = 0) := by
  unfold scF scE
  by_cases c : okO (tS (f + mi m)) o
  · right; rw [if_pos ⟨hf, c⟩, if_pos hf, if_pos c]; exact ⟨c, rfl, rfl⟩
  · left; rw [if_neg (fun k => c k.2), if_pos hf, if_neg c]; exact ⟨rfl, rfl⟩
theorem sc_getD {f t o : Int} {k : Nat} (hk : k < 7) : (scL f t o 7)[k]? = some (scP f t o k) := by
  unfold scL
  rw [List.getElem?_map, List.getElem?_range hk]; rfl
theorem sc_deg {f o : Int} {k : Nat} (hf : Sg f) (hk : k < 7) (p : P3) (hp : p = scP f (tS (f + mi false)) o k) : Cl p.1 p.2.1 ∧ dgD f p.1 = k ∧ p.2.1 - al f p.1 = 0 ∧ dia f p.1 p.2.1 := by
  subst hp
  have tb := tS_bd (f + mi false)
  have ab := al_bd f ((tS (f + mi false) + (k : Int)) % 7)
  unfold dgD scP Cl dia
  dsimp only
  refine ⟨⟨⟨by omega, by omega⟩, by omega, by omega⟩, by omega, by omega, hf, ⟨by omega, by omega⟩, rfl⟩

set_option maxRecDepth 100000 in
set_option maxHeartbeats 6400000 in
theorem diatonic_sg (u f o : Int) (w : World) (bl : 0 ≤ u) (bh : u ≤ 255) (hf : u % 15 - 7 = f) (ol : -9223372036854775808 ≤ o) (oh : o ≤ 9223372036854775807) (hT : Tab w) :
    Calls Tryd.prog 11 #[.int .u8 u, .int .i64 o] w fun e w' => e = .returned (.bool true) ∧ G w w' := by
  have HT := Lib.hid hT
  have hs : Sg f := by unfold Sg; omega
  have HS := Lib.hid hs
  have HB := Lib.hid (And.intro ol oh)
  have HC := Lib.hid (scF_casesD f false o hs)
  obtain ⟨E, hE⟩ : ∃ z : Int, Hid (z = scE f false o) := ⟨_, rfl⟩
  clear hs hT ol oh
  have HF := Lib.hid hf
  clear hf
  go_enter Tryd.func11, Tryd.ntmps11
  go_wp2_with fail
  rw [HF.out]
  refine (Scale_any f false o _ HB.out.1 HB.out.2 (HT.out.later (by (repeat' (first | (with_reducible exact G.refl _) | (with_reducible assumption) | (with_reducible refine G.drewN ?_ _) | (with_reducible refine G.drew ?_) | (with_reducible refine G.alloc ?_ _) | (with_reducible refine G.setCell ?_ (by first | (with_reducible exact Nat.le_refl _) | (simp; done) | (simp; omega) | omega) _) | (with_reducible refine G.trans ?_ (by assumption))))))).mono ?_
  rintro e w1 ⟨v1, rfl, hA1⟩
  have hG1 := hA1.2
  rw [← hE.out]
  go_wp2_with fail
  refine (known_any _ (HT.out.later (by (repeat' (first | (with_reducible exact G.refl _) | (with_reducible assumption) | (with_reducible refine G.drewN ?_ _) | (with_reducible refine G.drew ?_) | (with_reducible refine G.alloc ?_ _) | (with_reducible refine G.setCell ?_ (by first | (with_reducible exact Nat.le_refl _) | (simp; done) | (simp; omega) | omega) _) | (with_reducible refine G.trans ?_ (by assumption))))))).mono ?_
  rintro e w2 ⟨rfl, hG2⟩
  have gw2 := hG1.trans hG2
  go_wp2_with fail
  go_loopg [8, 9] 7 (fun g c x wr => ∃ s : Int, c = .int .i64 s ∧ x = .int .i64 s ∧ g = (7 - s).toNat ∧ 0 ≤ s ∧ s ≤ 7 ∧ G w2 wr)
  case atStart => exact ⟨0, rfl, rfl, rfl, by omega, by omega, G.refl _⟩
  case round =>
    obtain ⟨s, rfl, rfl, hg, s0, s7, hG3⟩ := hrel
    have HGS := Lib.hid hg
    clear hg
    by_cases h7 : s = 7
    · subst h7
      rcases HC.out with ⟨hF, hE18⟩ | ⟨hok, hF, hE0⟩
      · have HE := Lib.hid (show E = 18 by rw [hE.out]; exact hE18)
        rw [HE.out]
        clear hF hE18
        go_wp2_with fail
        go_ret
        exact ⟨rfl, gw2.trans hG3⟩
      · have HE := Lib.hid (show E = 0 by rw [hE.out]; exact hE0)
        rw [HE.out]
        rw [hF] at hA1
        rcases own_cells hA1.1 with ⟨_, q⟩ | ⟨g1, cap1, rfl, _, hcap1, hcap1', hc1⟩
        · have := congrArg List.length q; rw [scL_len] at this; cases this
        rw [scL_len] at hcap1 ⊢
        obtain ⟨p, hp⟩ : ∃ p : Nat → P3, ∀ k, p k = scP f (tS (f + mi false)) o k := ⟨_, fun _ => rfl⟩
        have HC1 := Lib.hid (show ∀ k, k < 7 → w1.cell? ⟨g1, 3 * k, none⟩ = some (.int .i64 (p k).1) ∧ w1.cell? ⟨g1, 3 * k + 1, none⟩ = some (.int .i64 (p k).2.1) ∧ w1.cell? ⟨g1, 3 * k + 2, none⟩ = some (.int .i64 (p k).2.2) from fun k hk => hc1 k _ (by rw [hp]; exact sc_getD hk))
        have HD := Lib.hid (show ∀ k, k < 7 → Cl (p k).1 (p k).2.1 ∧ dgD f (p k).1 = k ∧ (p k).2.1 - al f (p k).1 = 0 ∧ dia f (p k).1 (p k).2.1 from fun k hk => sc_deg HS.out hk _ (hp k))
        have g13 := hG2.trans hG3
        have gw3 := gw2.trans hG3
        clear hA1 hc1 hp hF hE0 hok
        clear hG1 hG2 hG3 gw2
        go_wp2_with fail
        go_loopg [11] 7 (fun g x wr' => ∃ k : Nat, x = .int .i64 k ∧ g = 7 - k ∧ k ≤ 7 ∧ G wr wr')
        case atStart => exact ⟨0, rfl, rfl, by omega, G.refl _⟩
        case round =>
          obtain ⟨k, rfl, hg, hk, hG5⟩ := hrel
          have HGK := Lib.hid hg
          clear hg
          by_cases k7 : k = 7
          · subst k7
            go_wp2_with fail
            go_ret
            exact ⟨rfl, gw3.trans hG5⟩
          · have h7 : k < 7 := by omega
            obtain ⟨c0, c1, c2⟩ := HC1.out k h7
            have g15 := g13.trans hG5
            replace c0 := g15.at c0
            replace c1 := g15.at c1
            replace c2 := g15.at c2
            have hd := HD.out k h7
            generalize p k = pk at *
            obtain ⟨p1, p2, p3⟩ := pk
            dsimp only at c0 c1 c2 hd
            rw [Nat.mul_comm] at c0 c1 c2
            have HDD := Lib.hid hd
            clear hd
            have q := IntWalk.i64_in ((k : Int) + 1) (by omega)
            have l1 : (k : Int) < 7 := by omega
            have l2 : (0 : Int) ≤ (k : Int) := by omega
            go_wp2_with fail
            refine (Degree_ok f p1 p2 p3 _ HS.out HDD.out.1 (HT.out.later (gw3.trans hG5))).mono ?_
            rintro e w6 ⟨rfl, hG6⟩
            rw [HDD.out.2.1, HDD.out.2.2.1]
            replace c0 := hG6.at c0
            replace c1 := hG6.at c1
            replace c2 := hG6.at c2
            go_wp2_with fail
            refine (Diatonic_any f p1 p2 p3 _ (HT.out.later ((gw3.trans hG5).trans hG6))).mono ?_
            rintro e w7 ⟨rfl, hG7⟩
            rw [decide_eq_true HDD.out.2.2.2]
            go_wp2_with fail
            go_roundg (7 - (k + 1))
            case measure => have := HGK.out; omega
            case rel => exact ⟨k + 1, by go_num, rfl, by omega, hG5.trans (hG6.trans hG7)⟩
    · have s6 : s ≤ 6 := by omega
      have s6' : s < 7 := by omega
      have q := IntWalk.i64_in (s + 1) (by omega)
      have ab := al_bd f s
      obtain ⟨A, hA⟩ : ∃ z : Int, Hid (z = al f s) := ⟨_, rfl⟩
      rw [← hA.out] at ab
      obtain ⟨b0, b1⟩ := ab
      go_wp2_with fail
      go_loopg [8, 10] 5 (fun g c x wr => ∃ a : Int, c = .int .i64 (if A < a then s + 1 else s) ∧ x = .int .i64 a ∧ g = (3 - a).toNat ∧ -2 ≤ a ∧ a ≤ 3 ∧ G w2 wr)
      case atStart => exact ⟨-2, by rw [if_neg (by omega)], rfl, rfl, by omega, by omega, hG3⟩
      case round =>
        obtain ⟨a, rfl, rfl, hg, a0, a1, hG4⟩ := hrel
        have HGA := Lib.hid hg
        clear hg
        by_cases h3 : a = 3
        · subst h3
          rw [if_pos (by omega)]
          go_wp2_with fail
          go_roundg ((7 - (s + 1)).toNat)
          case measure => have := HGS.out; omega
          case rel => exact ⟨s + 1, rfl, rfl, rfl, by omega, by omega, hG4⟩
        · have a2 : a ≤ 2 := by omega
          have qa := IntWalk.i64_in (a + 1) (by omega)
          by_cases h : a = A
          · rw [if_neg (by omega)]
            have HD := Lib.hid (show decide (dia f s a) = true from decide_eq_true ⟨HS.out, ⟨s0, s6⟩, h.trans hA.out⟩)
            have HI := Lib.hid (show (if A < a + 1 then s + 1 else s) = s + 1 from if_pos (by omega))
            clear h
            go_wp2_with fail
            refine (Diatonic_any f s a o _ (HT.out.later (gw2.trans hG4))).mono ?_
            rintro e w7 ⟨rfl, hG7⟩
            rw [HD.out]
            go_wp2_with fail
            go_roundg ((3 - (a + 1)).toNat)
            case measure => have := HGA.out; omega
            case rel => exact ⟨a + 1, by rw [HI.out], rfl, rfl, by omega, by omega, hG4.trans hG7⟩
          · have HD := Lib.hid (show decide (dia f s a) = false from decide_eq_false (fun k => h (k.2.2.trans hA.out.symm)))
            by_cases hl : A < a
            · rw [if_pos hl]
              have HI := Lib.hid (show (if A < a + 1 then s + 1 else s) = s + 1 from if_pos (by omega))
              clear h
              go_wp2_with fail
              refine (Diatonic_any f s a o _ (HT.out.later (gw2.trans hG4))).mono ?_
              rintro e w7 ⟨rfl, hG7⟩
              rw [HD.out]
              go_wp2_with fail
              go_roundg ((3 - (a + 1)).toNat)
              case measure => have := HGA.out; omega
              case rel => exact ⟨a + 1, by rw [HI.out], rfl, rfl, by omega, by omega, hG4.trans hG7⟩
            · rw [if_neg hl]
              have HI := Lib.hid (show (if A < a + 1 then s + 1 else s) = s from if_neg (by omega))
              clear h
              go_wp2_with fail
              refine (Diatonic_any f s a o _ (HT.out.later (gw2.trans hG4))).mono ?_
              rintro e w7 ⟨rfl, hG7⟩
              rw [HD.out]
              go_wp2_with fail
              go_roundg ((3 - (a + 1)).toNat)
              case measure => have := HGA.out; omega
              case rel => exact ⟨a + 1, by rw [HI.out], rfl, rfl, by omega, by omega, hG4.trans hG7⟩

theorem diatonic_walk (u o : Int) (w : World) (bl : 0 ≤ u) (bh : u ≤ 255) (ol : -9223372036854775808 ≤ o) (oh : o ≤ 9223372036854775807) (hT : Tab w) :
    Calls Tryd.prog 11 #[.int .u8 u, .int .i64 o] w fun e w' => e = .returned (.bool true) ∧ G w w' :=
  diatonic_sg u _ o w bl bh rfl ol oh hT

/-! ### the row and the card -/
open Go.ChangeShapes Go.WideShapes Go.ChangeAt Go.RowKit
set_option maxRecDepth 100000 in
theorem keyDiatonic_lifted (os : Os) (started : os.Started) (H : Type) (enc : TypeId × Value → H) :
    ReturnsInHanded {} Tryd.checked os 11 .any (fun w args => (Rows.keyDiatonicSpec.pre enc Tryd.prog Tryd.f11 [] false w args ∧ laidMetH Tryd.prog laidL w) ∧ sizedMet enc Tryd.prog Tryd.f11 (OpenSpec.ofChange Rows.keyDiatonicSpec) false w args)
      (Rows.keyDiatonicSpec.post enc Tryd.prog Tryd.f11 false true false false) := by
  refine returnsInHanded_of_change_and (C := Tryd.checked) (X := fun w _ => laidMetH Tryd.prog laidL w) (fun _ _ _ hh h => h.of_heap hh) own started (by kernel_rfl) Tryd.func11
    (ChangeSpec.witness_shaped (enc := enc) (C := Tryd.checked) (os := os) (X := fun w _ => laidMetH Tryd.prog laidL w) false (World.laidAll Tryd.prog os laidL) #[.int .u8 0, .int .i64 0] 8 (World.laidAll_os _ _ _) (shapedL os) (by kernel_rfl) (by kernel_rfl) (by kernel_rfl) (laid_met os _)) ?_
  intro W base args ds gs before hval0 hW _ _ hL _
  have hval : ∀ (j : Nat) t v, Tryd.f11.params[j]? = some t → args[j]? = some v → Value.okWide Tryd.prog W .any base t v := hval0
  have hW' := hW
  obtain ⟨p, q, hA0, hV, rfl, hfz, hnd⟩ := hW
  have hA : DataW.TrodAll enc Tryd.prog W 0 (fun _ => true) true Tryd.f11.params.toList args.toList ds p := hA0
  rw [Tryd.params11] at hA hval
  obtain ⟨v0, vs0, d0, ds0, p0, q0, hargs, rfl, rfl, h0, r0⟩ := trodAll_cons hA
  obtain ⟨v1, vs1, d1, ds1, p1, q1, rfl, rfl, rfl, h1, r1⟩ := trodAll_cons r0
  obtain ⟨rfl, rfl, rfl⟩ := trodAll_nil r1
  obtain rfl : args = #[v0, v1] := by cases args; simp_all
  obtain ⟨rfl, rfl⟩ := trodVars_none hV
  obtain ⟨a0, rfl, rfl, rfl, w0⟩ := open_int Tryd.underlying5 (hval 0 5 v0 rfl rfl) h0
  obtain ⟨bl0, bh0⟩ := bounds_u8 w0
  obtain ⟨a1, rfl, rfl, rfl, w1⟩ := open_int Tryd.underlying3 (hval 1 3 v1 rfl rfl) h1
  obtain ⟨bl1, bh1⟩ := bounds_i64 w1
  clear hA0 hval0
  simp only [List.append_nil] at hW'
  refine (diatonic_walk a0 a1 W bl0 bh0 bl1 bh1  (tab_of_laid hL)).mono fun e W' ⟨he, hg⟩ => ?_
  subst he
  exact ⟨_, rfl, _, _, _, [], [], [], hW', (trodAll_cons_mk (shut_bool Tryd.underlying4 _) trodAll_mk0), (trodAll_cons_mk (shut_int Tryd.underlying5 w0) (trodAll_cons_mk (shut_int Tryd.underlying3 w1) trodAll_mk0)), rfl, Below.frame hg _, fun h => by cases h⟩

theorem keyDiatonic_holds : Rows.KeyDiatonicSaid :=
  OpenClaim.holds_of_wide 11 Tryd.f11 rfl rfl rfl rfl rfl rfl rfl ⟨rfl, rfl, rfl, rfl, rfl⟩ rfl rfl rfl rfl rfl (by kernel_rfl) Tryd.func11 (by kernel_rfl)
    (of_decide_eq_true (by kernel_rfl)) (by unfold Func.isWrapper; first | (rw [if_pos (by decide +kernel)]; kernel_rfl) | (rw [if_neg (by decide +kernel)]; exact ⟨rfl, rfl⟩))
    (fun os started H enc _ => keyDiatonic_lifted os started H enc)

theorem keyDiatonic_card : Rows.KeyDiatonicCardSaid :=
  Claim7.holds_tied_plain_at .later [] [.data, .data] true (true, "2117eec5325c27370f2aa61ddd4a23a865e68bbc1d9bb0ef2c27e10075a20c79") false
    keyDiatonic_holds (fun _ h => by cases h) (by kernel_rfl) (fun _ h => by cases h) keyDiatonic_row_tie rfl ⟨rfl, rfl⟩ (by kernel_rfl) rfl
    (fun f fn hf hfn => by
      obtain rfl : f = 11 := Option.some.inj ((show Tryd.prog.funcNamed "hemiola/hemiolalaw07.KeyDiatonic" = some 11 by kernel_rfl).symm.trans hf) |>.symm
      obtain rfl : fn = Tryd.f11 := (Option.some.inj (Tryd.func11.symm.trans hfn)).symm
      exact ⟨by kernel_rfl, fun j t ht => by
        rw [Tryd.params11] at ht
        have hm : t ∈ [5, 3] := by simpa using Array.mem_of_getElem? ht
        have hall : ([5, 3].all fun u => !Tryd.prog.wantsStandIn u) = true := by kernel_rfl
        exact (show Tryd.prog.wantsStandIn t = false by simpa using List.all_eq_true.1 hall t hm)⟩)
    (by kernel_rfl)
#print axioms keyDiatonic_card
end Go.Proofs.YtdiokagnpiiijaaDoor
