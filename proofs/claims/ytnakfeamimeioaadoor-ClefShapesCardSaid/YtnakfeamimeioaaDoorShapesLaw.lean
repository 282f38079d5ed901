/- ClefShapes: for every clef and every key signature, the accidentals stand at different positions, fewer than seven apart, and on the steps of the circle of fifths; the arguments read as before; the tables that the row lists are tied to the program text; no further condition. -/
import Derived.Test.YtnakfeamimeioaaDoorKnown
import Derived.Test.YtnakfeamimeioaaDoorLaid
import Derived.Test.YtnakfeamimeioaaDoorC8
import Derived.BigRegion
namespace Go.Proofs.YtnakfeamimeioaaDoor
open Go.RowKit
attribute [local go_sem] World.cell?_alloc_some

theorem stL_nodup0 : ((List.range 15).all fun k => decide ((stL ((k : Int) - 7)).Nodup)) = true := by decide +kernel
theorem stL_nodup {f : Int} (h : Sg f) : (stL f).Nodup := by
  obtain ⟨f0, f1⟩ := h
  have h := List.all_eq_true.1 stL_nodup0 (f + 7).toNat (List.mem_range.2 (by omega))
  rw [show (((f + 7).toNat : Nat) : Int) - 7 = f by omega] at h
  exact of_decide_eq_true h
theorem low_bd (c f : Int) : -5 ≤ lowC c f ∧ lowC c f ≤ -1 := by
  have := shp_bd c
  have := flt_bd c
  unfold lowC; split <;> omega
theorem plc_inj {m a b low : Int} (ha : 0 ≤ a ∧ a ≤ 6) (hb : 0 ≤ b ∧ b ≤ 6) (h : plc m a low = plc m b low) : a = b := by unfold plc at h; omega
/-- an element of a signature: its pitch -/
theorem sg_at {c f : Int} (_ : Cf c) {i : Nat} {st : Int} (hst : (stL f)[i]? = some st) :
    (sgL c f)[i]? = some (plc (mid c) st (lowC c f)) ∧ hasP (mid c + plc (mid c) st (lowC c f)) ∧ stp (mid c + plc (mid c) st (lowC c f)) = st := by
  have hs := stL_bd (List.mem_of_getElem? hst)
  refine ⟨by rw [← mp_sg]; simp [mp, hst], ?_, ?_⟩
  · have h1 := mid_bd c
    have h2 := low_bd c f
    have h3 := plc_bd (m := mid c) (st := st) (low := lowC c f)
    generalize plc (mid c) st (lowC c f) = x at *
    generalize mid c = m at *
    refine ⟨by omega, ?_⟩
    have hb := H_bd (stp (m + x))
    refine ⟨⟨⟨by unfold stp; omega, by unfold stp; omega⟩, ⟨by decide, by decide⟩, by unfold oct; omega, by unfold oct; omega⟩, ?_, ?_⟩
    · unfold ht oct; omega
    · unfold ht oct; omega
  · unfold stp plc
    have h1 := mid_bd c
    have h2 := low_bd c f
    omega

theorem Lies.formS {w : World} {v : Value} {l : List Int} (h : Lies w v l) : ∃ p cap, v = .slice p l.length cap ∧ ((p = none ∧ l = []) ∨ ∃ g, p = some ⟨g, 0, none⟩ ∧ l.length ≤ cap ∧ ∀ (i : Nat) (x : Int), l[i]? = some x → w.cell? ⟨g, i, none⟩ = some (.int .i64 x)) := by
  rcases h with ⟨rfl, rfl⟩ | ⟨g, cap, rfl, h1, _, h3⟩
  · exact ⟨_, _, rfl, .inl ⟨rfl, rfl⟩⟩
  · exact ⟨_, _, rfl, .inr ⟨g, rfl, h1, h3⟩⟩
theorem nodup_ne {l : List Int} (h : l.Nodup) {i j : Nat} {a b : Int} (hi : l[i]? = some a) (hj : l[j]? = some b) (hij : j < i) : a ≠ b := by
  obtain ⟨h1, e1⟩ := List.getElem?_eq_some_iff.1 hi
  obtain ⟨h2, e2⟩ := List.getElem?_eq_some_iff.1 hj
  intro e
  rw [← e1, ← e2] at e
  exact List.pairwise_iff_getElem.1 h j i h2 h1 hij e.symm

set_option maxRecDepth 100000 in
set_option maxHeartbeats 6400000 in
theorem shapes_walk (c f : Int) (w : World) (c0 : 0 ≤ c) (c1 : c ≤ 255) (f0 : -128 ≤ f) (f1 : f ≤ 127) (hT : Tab w) :
    Calls Tryd.prog 9 #[.int .u8 c, .int .i8 f] w fun e w' => e = .returned (.bool true) ∧ G w w' := by
  have HT := Lib.hid hT
  obtain ⟨C, hC⟩ : ∃ z : Int, Hid (z = 1 + c % 9) := ⟨_, rfl⟩
  have hCf : Cf C := by rw [hC.out]; exact ⟨by omega, by omega⟩
  have HC := Lib.hid hCf
  obtain ⟨N, hN⟩ : ∃ z : Int, Hid (z = f.tmod 8) := ⟨_, rfl⟩
  have hSg : Sg N := by
    have h1 := Int.tmod_lt_of_pos f (show (0 : Int) < 8 by decide)
    have h2 : -8 < f.tmod 8 := by
      have := Int.tmod_lt_of_pos (-f) (show (0 : Int) < 8 by decide)
      rw [Int.neg_tmod] at this
      omega
    rw [hN.out]; exact ⟨by omega, by omega⟩
  have HS := Lib.hid hSg
  have q1 : IntKind.i64.wrap (1 + c % 9) = C := by rw [← hC.out]; exact IntWalk.i64_in C (by rw [hC.out]; omega)
  have q2 : 1 + c % 9 = C := hC.out.symm
  have q3 : f.tmod 8 = N := hN.out.symm
  have q4 := IntWalk.i64_in N (by obtain ⟨_, _⟩ := hSg; omega)
  obtain ⟨l, hl⟩ : ∃ z : List Int, Hid (z = stL N) := ⟨_, rfl⟩
  have HLL := Lib.hid (show l.length ≤ 100 by rw [hl.out]; exact stL_len hSg)
  have HLN := Lib.hid (show (sgL C N).length = l.length by rw [← mp_sg, mp_len, hl.out])
  have HND := Lib.hid (stL_nodup hSg)
  clear hT hCf hSg
  go_enter Tryd.func9, Tryd.ntmps9
  go_wp2_with fail
  refine (Signature_ok C N _ HC.out HS.out (HT.out.later (by (repeat' (first | (with_reducible exact G.refl _) | (with_reducible assumption) | (with_reducible refine G.drewN ?_ _) | (with_reducible refine G.drew ?_) | (with_reducible refine G.alloc ?_ _) | (with_reducible refine G.setCell ?_ (by first | (with_reducible exact Nat.le_refl _) | (simp; done) | (simp; omega) | omega) _) | (with_reducible refine G.trans ?_ (by assumption))))))).mono ?_
  rintro e w1 ⟨v1, rfl, hA1⟩
  have g1 := hA1.2
  have L1 := hA1.lies
  clear hA1 q1 q2 q3
  go_wp2_with fail
  refine (rSteps_any N _ HS.out).mono ?_
  rintro e w2 ⟨v2, rfl, hA2⟩
  have g2 := hA2.2
  have L2 := hA2.lies
  replace L1 := L1.later g2
  clear hA2
  obtain ⟨p1, cap1, rfl, F1'⟩ := L1.formS
  obtain ⟨p2, cap2, rfl, F2'⟩ := L2.formS
  rw [HLN.out] at F1' ⊢
  rw [← hl.out] at F2' ⊢
  have F1 := Lib.hid F1'
  have F2 := Lib.hid F2'
  clear L1 L2 F1' F2' q4
  have gw2 : G w w2 := g1.trans g2
  go_wp2_with fail
  refine (known_any _ (HT.out.later gw2)).mono ?_
  rintro e w3 ⟨rfl, hG3⟩
  have gw3 := gw2.trans hG3
  by_cases hk : l = []
  · have hk0 : l.length = 0 := by rw [hk]; rfl
    go_wp2_with fail
    go_loopw [10] (fun x wr => x = .int .i64 0 ∧ wr = w3) (fun _ _ => 0)
    case atStart => exact ⟨rfl, rfl⟩
    case round =>
      obtain ⟨rfl, rfl⟩ := hrel
      go_wp2_with fail
      go_ret
      exact ⟨by first | rfl | simp, gw3⟩
  · have hlp : 0 < l.length := by cases l with
      | nil => exact absurd rfl hk
      | cons _ _ => simp
    have HLP := Lib.hid hlp
    rcases F1.out with ⟨_, hz⟩ | ⟨ga, rfl, hca, fa⟩
    · exact absurd (congrArg List.length hz) (by rw [HLN.out]; simp; omega)
    rcases F2.out with ⟨_, hz⟩ | ⟨gb, rfl, hcb, fb⟩
    · exact absurd hz hk
    have FA := Lib.hid fa
    have FB := Lib.hid fb
    have HHK := Lib.hid hk
    clear F1 F2 fa fb hk hca hcb
    go_wp2_with fail
    go_loopg [10] l.length (fun k x wr => ∃ i : Nat, x = .int .i64 i ∧ k = l.length - i ∧ i ≤ l.length ∧ G w3 wr)
    case atStart => exact ⟨0, rfl, by omega, by omega, G.refl _⟩
    case round =>
      obtain ⟨i, rfl, hgk, i1, gr⟩ := hrel
      have HGK := Lib.hid hgk
      have hlb := HLL.out
      clear hgk
      by_cases hi : i < l.length
      · obtain ⟨st, hst⟩ : ∃ p, l[i]? = some p := ⟨l[i], List.getElem?_eq_getElem hi⟩
        have HST := Lib.hid hst
        have hst2 : (stL N)[i]? = some st := by rw [← hl.out]; exact hst
        obtain ⟨e1, e2, e3⟩ := sg_at HC.out hst2
        obtain ⟨X, hX⟩ : ∃ z : Int, Hid (z = plc (mid C) st (lowC C N)) := ⟨_, rfl⟩
        rw [← hX.out] at e1 e2 e3
        have HXB := Lib.hid (show -5 ≤ X ∧ X ≤ 5 by
          have h2 := low_bd C N
          have h3 := plc_bd (m := mid C) (st := st) (low := lowC C N)
          rw [← hX.out] at h3; omega)
        obtain ⟨O, hO⟩ : ∃ z : Int, Hid (z = oct (mid C + X)) := ⟨_, rfl⟩
        have HV := Lib.hid (show atS C X = st ∧ atO C X = O ∧ atE C X = 0 by
          unfold atS atO atE
          rw [if_pos ⟨HC.out, e2⟩, if_pos ⟨HC.out, e2⟩, if_pos HC.out, if_pos e2]
          exact ⟨e3, hO.out.symm, rfl⟩)
        have gr3 := hG3.trans gr
        have a0 := gr3.at (FA.out i _ e1)
        have b0 := gr3.at (FB.out i _ hst)
        have HE1 := Lib.hid e1
        clear hst hst2 e1 e2 e3
        go_wp2_with fail
        refine (cAt_any C X _ (by have := HXB.out; omega) (by have := HXB.out; omega) (HT.out.later (gw3.trans gr))).mono ?_
        rintro e w4 ⟨rfl, hG4⟩
        rw [HV.out.1, HV.out.2.1, HV.out.2.2]
        have g4 : G wr (w4.alloc (.cells #[.int .i64 st, .int .i64 0, .int .i64 O] 23)) := hG4.alloc _
        replace a0 := g4.at a0
        replace b0 := g4.at b0
        obtain ⟨y0, y1, y2⟩ := tri_later (G.refl (w4.alloc (.cells #[.int .i64 st, .int .i64 0, .int .i64 O] 23)))
        have b1 : (0 : Int) ≤ (i : Int) := by omega
        have b2 : (i : Int) < (l.length : Int) := by omega
        go_wp2_with fail
        generalize w4.alloc (.cells #[.int .i64 st, .int .i64 0, .int .i64 O] 23) = W5 at *
        go_big_region
        all_goals
          have g5 : G wr W5.drew := g4.drew
          clear y0 y1 y2
          go_wp2_with fail
          go_loopg [13] i (fun k x wr2 => ∃ j : Nat, x = .int .i64 j ∧ k = i - j ∧ j ≤ i ∧ G W5.drew wr2)
          case atStart => exact ⟨0, rfl, by omega, by omega, G.refl _⟩
          case round =>
            obtain ⟨j, rfl, hgk2, j1, gr2⟩ := hrel
            have HGK2 := Lib.hid hgk2
            clear hgk2
            by_cases hj : j < i
            · obtain ⟨st2, hst2⟩ : ∃ p, l[j]? = some p := ⟨l[j], List.getElem?_eq_getElem (by omega)⟩
              have hst3 : (stL N)[j]? = some st2 := by rw [← hl.out]; exact hst2
              have d1 := (sg_at HC.out hst3).1
              obtain ⟨Y, hY⟩ : ∃ z : Int, Hid (z = plc (mid C) st2 (lowC C N)) := ⟨_, rfl⟩
              rw [← hY.out] at d1
              have hne : st ≠ st2 := nodup_ne HND.out (by rw [← hl.out]; exact HST.out) hst3 hj
              have s1 := stL_bd (List.mem_of_getElem? (show (stL N)[i]? = some st by rw [← hl.out]; exact HST.out))
              have s2 := stL_bd (List.mem_of_getElem? hst3)
              have hXY : X ≠ Y := fun e => hne (plc_inj s1 s2 (by rw [← hX.out, ← hY.out]; exact e))
              have k1 := plc_bd (m := mid C) (st := st) (low := lowC C N)
              have k2 := plc_bd (m := mid C) (st := st2) (low := lowC C N)
              rw [← hX.out] at k1
              rw [← hY.out] at k2
              have HB := HXB.out
              have xy1 : (X == Y) = false := beq_false_of_ne hXY
              have xy2 : decide (6 < X - Y) = false := decide_eq_false (by omega)
              have xy3 : decide (6 < Y - X) = false := decide_eq_false (by omega)
              have w1' := IntWalk.i64_in (X - Y) (by omega)
              have w2' := IntWalk.i64_in (Y - X) (by omega)
              have x0 := gr2.at (G.at (G.drew (G.refl _)) a0)
              have z0 := gr2.at ((gr3.trans g5).at (FA.out j _ d1))
              have c1 : (0 : Int) ≤ (j : Int) := by omega
              have c2 : (j : Int) < (l.length : Int) := by omega
              clear hst2 hst3 d1 hne s1 s2 hXY k1 k2 HB
              go_wp2_with fail
              go_big_region
              all_goals
                go_wp2_with fail
                go_roundg (i - (j + 1))
                case measure => have := HGK2.out; omega
                case rel => exact ⟨j + 1, by go_num, rfl, by omega, by (repeat' (first | (with_reducible exact G.refl _) | (with_reducible assumption) | (with_reducible refine G.drewN ?_ _) | (with_reducible refine G.drew ?_) | (with_reducible refine G.alloc ?_ _) | (with_reducible refine G.setCell ?_ (by first | (with_reducible exact Nat.le_refl _) | (simp; done) | (simp; omega) | omega) _) | (with_reducible refine G.trans ?_ (by assumption))))⟩
            · obtain rfl : j = i := by omega
              go_wp2_with fail
              go_roundg (l.length - (j + 1))
              case measure => have := HGK.out; omega
              case rel => exact ⟨j + 1, by go_num, rfl, by omega, gr.trans (g5.trans gr2)⟩
      · obtain rfl : i = l.length := by omega
        go_wp2_with fail
        go_ret
        exact ⟨by first | rfl | simp, gw3.trans gr⟩

/-! ### the row and the card -/
open Go.ChangeShapes Go.WideShapes Go.ChangeAt Go.RowKit
set_option maxRecDepth 100000 in
theorem clefShapes_lifted (os : Os) (started : os.Started) (H : Type) (enc : TypeId × Value → H) :
    ReturnsInHanded {} Tryd.checked os 9 .any (fun w args => (Rows.clefShapesSpec.pre enc Tryd.prog Tryd.f9 [] false w args ∧ laidMetH Tryd.prog laidL w) ∧ sizedMet enc Tryd.prog Tryd.f9 (OpenSpec.ofChange Rows.clefShapesSpec) false w args)
      (Rows.clefShapesSpec.post enc Tryd.prog Tryd.f9 false true false false) := by
  refine returnsInHanded_of_change_and (C := Tryd.checked) (X := fun w _ => laidMetH Tryd.prog laidL w) (fun _ _ _ hh h => h.of_heap hh) own started (by kernel_rfl) Tryd.func9
    (ChangeSpec.witness_shaped (enc := enc) (C := Tryd.checked) (os := os) (X := fun w _ => laidMetH Tryd.prog laidL w) false (World.laidAll Tryd.prog os laidL) #[.int .u8 0, .int .i8 0] 8 (World.laidAll_os _ _ _) (shapedL os) (by kernel_rfl) (by kernel_rfl) (by kernel_rfl) (laid_met os _)) ?_
  intro W base args ds gs before hval0 hW _ _ hL _
  have hval : ∀ (j : Nat) t v, Tryd.f9.params[j]? = some t → args[j]? = some v → Value.okWide Tryd.prog W .any base t v := hval0
  have hW' := hW
  obtain ⟨p, q, hA0, hV, rfl, hfz, hnd⟩ := hW
  have hA : DataW.TrodAll enc Tryd.prog W 0 (fun _ => true) true Tryd.f9.params.toList args.toList ds p := hA0
  rw [Tryd.params9] at hA hval
  obtain ⟨v0, vs0, d0, ds0, p0, q0, hargs, rfl, rfl, h0, r0⟩ := trodAll_cons hA
  obtain ⟨v1, vs1, d1, ds1, p1, q1, rfl, rfl, rfl, h1, r1⟩ := trodAll_cons r0
  obtain ⟨rfl, rfl, rfl⟩ := trodAll_nil r1
  obtain rfl : args = #[v0, v1] := by cases args; simp_all
  obtain ⟨rfl, rfl⟩ := trodVars_none hV
  obtain ⟨a0, rfl, rfl, rfl, w0⟩ := open_int Tryd.underlying5 (hval 0 5 v0 rfl rfl) h0
  obtain ⟨bl0, bh0⟩ := bounds_u8 w0
  obtain ⟨a1, rfl, rfl, rfl, w1⟩ := open_int Tryd.underlying47 (hval 1 47 v1 rfl rfl) h1
  obtain ⟨bl1, bh1⟩ := bounds_i8 w1
  clear hA0 hval0
  simp only [List.append_nil] at hW'
  refine (shapes_walk a0 a1 W bl0 bh0 bl1 bh1  (tab_of_laid hL)).mono fun e W' ⟨he, hg⟩ => ?_
  subst he
  exact ⟨_, rfl, _, _, _, [], [], [], hW', (trodAll_cons_mk (shut_bool Tryd.underlying4 _) trodAll_mk0), (trodAll_cons_mk (shut_int Tryd.underlying5 w0) (trodAll_cons_mk (shut_int Tryd.underlying47 w1) trodAll_mk0)), rfl, Below.frame hg _, fun h => by cases h⟩

theorem clefShapes_holds : Rows.ClefShapesSaid :=
  OpenClaim.holds_of_wide 9 Tryd.f9 rfl rfl rfl rfl rfl rfl rfl ⟨rfl, rfl, rfl, rfl, rfl⟩ rfl rfl rfl rfl rfl (by kernel_rfl) Tryd.func9 (by kernel_rfl)
    (of_decide_eq_true (by kernel_rfl)) (by unfold Func.isWrapper; first | (rw [if_pos (by decide +kernel)]; kernel_rfl) | (rw [if_neg (by decide +kernel)]; exact ⟨rfl, rfl⟩))
    (fun os started H enc _ => clefShapes_lifted os started H enc)

theorem clefShapes_card : Rows.ClefShapesCardSaid :=
  Claim7.holds_tied_plain_at .later [] [.data, .data, .data] true (true, "ae3d3630bcff25fd33e59354a4ec782dc285709024c716b55dd2ba349c01efa0") false
    clefShapes_holds (fun _ h => by cases h) (by kernel_rfl) (fun _ h => by cases h) clefShapes_row_tie rfl ⟨rfl, rfl⟩ (by kernel_rfl) rfl
    (fun f fn hf hfn => by
      obtain rfl : f = 9 := Option.some.inj ((show Tryd.prog.funcNamed "hemiola/hemiolalaw08.ClefShapes" = some 9 by kernel_rfl).symm.trans hf) |>.symm
      obtain rfl : fn = Tryd.f9 := (Option.some.inj (Tryd.func9.symm.trans hfn)).symm
      exact ⟨by kernel_rfl, fun j t ht => by
        rw [Tryd.params9] at ht
        have hm : t ∈ [5, 47] := by simpa using Array.mem_of_getElem? ht
        have hall : ([5, 47].all fun u => !Tryd.prog.wantsStandIn u) = true := by kernel_rfl
        exact (show Tryd.prog.wantsStandIn t = false by simpa using List.all_eq_true.1 hall t hm)⟩)
    (by kernel_rfl)
#print axioms clefShapes_card
end Go.Proofs.YtnakfeamimeioaaDoor
