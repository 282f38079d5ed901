import Derived.Test.YtkooggakngheoaaDoorRTr
/-! The reference's Exact. -/
namespace Go.Proofs.YtkooggakngheoaaDoor
open Go.RowKit
attribute [local go_sem] World.cell?_alloc_some

theorem exE_bad1 {s a o x y : Int} (h : ¬ Ok s a o) : exE s a o x y = 18 := by
  have e := trE_bad1 (x := x) (y := y) h
  unfold exE; rw [if_neg (by rw [e]; decide), e]
theorem exE_bad2 {s a o x y : Int} (h : Ok s a o) (h2 : ¬ Iv x y) : exE s a o x y = 2 := by
  have e := trE_bad2 h h2
  unfold exE; rw [if_neg (by rw [e]; decide), e]

set_option maxRecDepth 20000 in
set_option maxHeartbeats 3200000 in
theorem rExact_bad (s a o x y : Int) (w : World) (h : ¬ (Ok s a o ∧ Iv x y)) :
    Calls Tryd.prog 24 #[.agg #[.int .i64 s, .int .i64 a, .int .i64 o], .agg #[.int .i64 x, .int .i64 y]] w fun e w' => e = .returned (.tuple #[.agg #[.int .i64 0, .int .i64 0, .int .i64 0], .int .i64 (exE s a o x y)]) ∧ G w w' := by
  have gb := G.refl (((w.alloc (.cells #[.int .i64 s, .int .i64 a, .int .i64 o] 41)).alloc (.cells #[.int .i64 x, .int .i64 y] 23)).alloc (.cells #[.int .i64 0, .int .i64 0, .int .i64 0] 41))
  have gw : G w (((w.alloc (.cells #[.int .i64 s, .int .i64 a, .int .i64 o] 41)).alloc (.cells #[.int .i64 x, .int .i64 y] 23)).alloc (.cells #[.int .i64 0, .int .i64 0, .int .i64 0] 41)) := by (repeat' (first | (with_reducible exact G.refl _) | (with_reducible refine G.drewN ?_ _) | (with_reducible refine G.drew ?_) | (with_reducible refine G.alloc ?_ _)))
  by_cases h1 : Ok s a o
  · have h2 : ¬ Iv x y := fun k => h ⟨h1, k⟩
    rw [exE_bad2 h1 h2]
    have H1 := Lib.hid h1
    have H2 := Lib.hid h2
    clear h h1 h2
    go_enter Tryd.func24, Tryd.ntmps24
    go_wp2_with fail
    refine (rValid_any s a o _).mono ?_
    rintro e w1 ⟨rfl, hG⟩
    rw [decide_eq_true H1.out]
    have gq := gb.trans hG
    obtain ⟨⟨y0, y1, y2⟩, ⟨y3, y4⟩, ⟨y5, y6, y7⟩, f0, f1, f2⟩ := tdt_later gq
    go_wp2_with fail
    refine (rIs_any x y _).mono ?_
    rintro e w2 ⟨rfl, hG2⟩
    rw [decide_eq_false H2.out]
    have gq2 := gq.trans hG2
    clear y0 y1 y2 y3 y4 y5 y6 y7 f0 f1 f2
    obtain ⟨⟨y0, y1, y2⟩, ⟨y3, y4⟩, ⟨y5, y6, y7⟩, f0, f1, f2⟩ := tdt_later gq2
    go_wp2_with fail
    have gfin := gw.trans gq2
    refine bodyPost_ret (v := .tuple #[.agg #[.int .i64 0, .int .i64 0, .int .i64 0], .int .i64 2]) (by simp [results, Tryd.results24, go_sem, y5, y6, y7]) rfl ⟨rfl, ?_⟩
    (repeat' (first | (with_reducible exact G.refl _) | (with_reducible assumption) | (with_reducible refine G.drewN ?_ _) | (with_reducible refine G.drew ?_) | (with_reducible refine G.alloc ?_ _) | (with_reducible refine G.setCell ?_ (by first | (with_reducible exact Nat.le_refl _) | (simp; done) | (simp; omega) | omega) _) | (with_reducible refine G.trans ?_ (by assumption))))
  · rw [exE_bad1 h1]
    have H1 := Lib.hid h1
    clear h h1
    go_enter Tryd.func24, Tryd.ntmps24
    go_wp2_with fail
    refine (rValid_any s a o _).mono ?_
    rintro e w1 ⟨rfl, hG⟩
    rw [decide_eq_false H1.out]
    have gq := gb.trans hG
    obtain ⟨⟨y0, y1, y2⟩, ⟨y3, y4⟩, ⟨y5, y6, y7⟩, f0, f1, f2⟩ := tdt_later gq
    go_wp2_with fail
    have gfin := gw.trans gq
    refine bodyPost_ret (v := .tuple #[.agg #[.int .i64 0, .int .i64 0, .int .i64 0], .int .i64 18]) (by simp [results, Tryd.results24, go_sem, y5, y6, y7]) rfl ⟨rfl, ?_⟩
    (repeat' (first | (with_reducible exact G.refl _) | (with_reducible assumption) | (with_reducible refine G.drewN ?_ _) | (with_reducible refine G.drew ?_) | (with_reducible refine G.alloc ?_ _) | (with_reducible refine G.setCell ?_ (by first | (with_reducible exact Nat.le_refl _) | (simp; done) | (simp; omega) | omega) _) | (with_reducible refine G.trans ?_ (by assumption))))

set_option maxRecDepth 20000 in
set_option maxHeartbeats 6400000 in
theorem rExact_ok (s a o x y : Int) (w : World) (h : Ok s a o) (hi : Iv x y) :
    Calls Tryd.prog 24 #[.agg #[.int .i64 s, .int .i64 a, .int .i64 o], .agg #[.int .i64 x, .int .i64 y]] w fun e w' => e = .returned (.tuple #[.agg #[.int .i64 (exR s a o x y).1, .int .i64 (exR s a o x y).2.1, .int .i64 (exR s a o x y).2.2], .int .i64 (exE s a o x y)]) ∧ G w w' := by
  have gb := G.refl (((w.alloc (.cells #[.int .i64 s, .int .i64 a, .int .i64 o] 41)).alloc (.cells #[.int .i64 x, .int .i64 y] 23)).alloc (.cells #[.int .i64 0, .int .i64 0, .int .i64 0] 41))
  have gw : G w (((w.alloc (.cells #[.int .i64 s, .int .i64 a, .int .i64 o] 41)).alloc (.cells #[.int .i64 x, .int .i64 y] 23)).alloc (.cells #[.int .i64 0, .int .i64 0, .int .i64 0] 41)) := by (repeat' (first | (with_reducible exact G.refl _) | (with_reducible refine G.drewN ?_ _) | (with_reducible refine G.drew ?_) | (with_reducible refine G.alloc ?_ _)))
  obtain ⟨Z, hZ⟩ : ∃ z : Int × Int × Int, Hid (z = exR s a o x y) := ⟨_, rfl⟩
  obtain ⟨E, hE⟩ : ∃ z : Int, Hid (z = exE s a o x y) := ⟨_, rfl⟩
  rw [← hZ.out, ← hE.out]
  have HO := Lib.hid h
  have HI := Lib.hid hi
  obtain ⟨n, hn⟩ : ∃ z : Int, Hid (z = ht s a o) := ⟨_, rfl⟩
  obtain ⟨p, hp⟩ : ∃ z : Int, Hid (z = 7 * o + s) := ⟨_, rfl⟩
  have nb : 0 ≤ n ∧ n ≤ 127 := by rw [hn.out]; exact h.2
  have pb : -7 ≤ p ∧ p ≤ 69 := by
    obtain ⟨⟨⟨_, _⟩, _, _, _⟩, _⟩ := h
    rw [hp.out]; omega
  obtain ⟨⟨x0, x1⟩, z0, z1⟩ := hi
  have q1 := IntWalk.i64_in (n + y) (by omega)
  have HQ := Lib.hid (IntWalk.i64_in (p + x) (by omega))
  obtain ⟨l, hl⟩ : ∃ z : List P3, Hid (z = allO (n + y) 11) := ⟨_, rfl⟩
  have HLN := Lib.hid (show l.length ≤ 100 by rw [hl.out]; have := allO_len (n + y) 11; omega)
  have HB := Lib.hid (show -1000 ≤ n + y ∧ n + y ≤ 1000 by omega)
  have HPX := Lib.hid (show (-7 ≤ p ∧ p ≤ 69) ∧ -77 ≤ x ∧ x ≤ 77 from ⟨pb, x0, x1⟩)
  obtain ⟨F, hF⟩ : ∃ z : Option P3, Hid (z = fndL (p + x) l) := ⟨_, rfl⟩
  have HF0 := Lib.hid (show F = none → Z = (0, 0, 0) ∧ E = 18 by
    intro e
    have e2 : exE s a o x y = 18 := by
      by_cases k : 0 ≤ Go.Proofs.YtkooggakngheoaaDoor.ht s a o + y ∧ Go.Proofs.YtkooggakngheoaaDoor.ht s a o + y ≤ 127
      · have e2 : trE s a o x y = 0 := trE_of HO.out HI.out k.1 k.2
        have e3 : l = enh (Go.Proofs.YtkooggakngheoaaDoor.ht s a o + y) (alts 5) := by rw [hl.out, hn.out]; exact all_eq k.1 k.2
        have e4 : exO s a o x y = none := by
          show fndL (k2 s a o + x) _ = none
          rw [show k2 s a o = 7 * o + s from if_pos HO.out, ← hp.out, ← e3, ← hF.out]; exact e
        unfold exE
        rw [if_pos e2, e4]; rfl
      · have e2 : trE s a o x y = 18 := trE_bad3 HO.out HI.out k
        unfold exE
        rw [if_neg (by rw [e2]; decide), e2]
    rw [hZ.out, hE.out, e2]
    exact ⟨if_neg (by rw [e2]; decide), rfl⟩)
  have HF1 := Lib.hid (show ∀ q, F = some q → Z = q ∧ E = 0 by
    intro q e
    have k : 0 ≤ Go.Proofs.YtkooggakngheoaaDoor.ht s a o + y ∧ Go.Proofs.YtkooggakngheoaaDoor.ht s a o + y ≤ 127 := by
      by_cases k : 0 ≤ Go.Proofs.YtkooggakngheoaaDoor.ht s a o + y ∧ Go.Proofs.YtkooggakngheoaaDoor.ht s a o + y ≤ 127
      · exact k
      · rw [hF.out, hl.out, hn.out, all_out k] at e; cases e
    have e2 : trE s a o x y = 0 := trE_of HO.out HI.out k.1 k.2
    have e3 : l = enh (Go.Proofs.YtkooggakngheoaaDoor.ht s a o + y) (alts 5) := by rw [hl.out, hn.out]; exact all_eq k.1 k.2
    have e4 : exO s a o x y = some q := by
      show fndL (k2 s a o + x) _ = some q
      rw [show k2 s a o = 7 * o + s from if_pos HO.out, ← hp.out, ← e3, ← hF.out]; exact e
    have e5 : exE s a o x y = 0 := by unfold exE; rw [if_pos e2, e4]; rfl
    rw [hZ.out, hE.out, e5]
    refine ⟨?_, rfl⟩
    rw [show exR s a o x y = trP s a o x y from if_pos e5]
    exact (fnd_some k.1 k.2 e4).1)
  have HOK := Lib.hid (show ∀ q ∈ l, OkQ q by
    intro q hq
    by_cases k : 0 ≤ Go.Proofs.YtkooggakngheoaaDoor.ht s a o + y ∧ Go.Proofs.YtkooggakngheoaaDoor.ht s a o + y ≤ 127
    · rw [hl.out, hn.out, all_eq k.1 k.2] at hq
      exact ((enh_gd k.1 k.2).1 q hq).1
    · rw [hl.out, hn.out, all_out k] at hq; simp at hq)
  clear h nb pb x0 x1 z0 z1
  go_enter Tryd.func24, Tryd.ntmps24
  go_wp2_with fail
  refine (rValid_any s a o _).mono ?_
  rintro e w1 ⟨rfl, hG⟩
  rw [decide_eq_true HO.out]
  have gq := gb.trans hG
  clear gb
  obtain ⟨⟨y0, y1, y2⟩, ⟨y3, y4⟩, ⟨y5, y6, y7⟩, f0, f1, f2⟩ := tdt_later gq
  go_wp2_with fail
  refine (rIs_any x y _).mono ?_
  rintro e w2 ⟨rfl, hG2⟩
  rw [decide_eq_true HI.out]
  have gb := gq.trans hG2
  clear y0 y1 y2 y3 y4 y5 y6 y7 f0 f1 f2 gq
  obtain ⟨⟨y0, y1, y2⟩, ⟨y3, y4⟩, ⟨y5, y6, y7⟩, f0, f1, f2⟩ := tdt_later gb
  go_wp2_with fail
  go_region_held3 (fun w' => w'.cell? ⟨w.heap.size, 0, none⟩ = some (.int .i64 s) ∧ w'.cell? ⟨w.heap.size, 1, none⟩ = some (.int .i64 a) ∧ w'.cell? ⟨w.heap.size, 2, none⟩ = some (.int .i64 o) ∧ w'.cell? ⟨w.heap.size + 1, 0, none⟩ = some (.int .i64 x) ∧ w'.cell? ⟨w.heap.size + 1, 1, none⟩ = some (.int .i64 y))
    (first | (with_reducible assumption) | ((try dsimp only); (repeat' (with_reducible apply And.intro)) <;> go_simp))
    (first
      | (go_at_call 27; refine (rNumber_any s a o _ HO.out.1).mono ?_; rintro e w3 ⟨rfl, hG3⟩; rw [← hn.out]; have gq := gb.trans (G.trans (by (repeat' (first | (with_reducible exact G.refl _) | (with_reducible refine G.drewN ?_ _) | (with_reducible refine G.drew ?_) | (with_reducible refine G.alloc ?_ _)))) hG3); clear gb; have gb := gq; obtain ⟨⟨y0, y1, y2⟩, ⟨y3, y4⟩, ⟨y5, y6, y7⟩, f0, f1, f2⟩ := tdt_later gb)
      | (go_at_call 29; refine (rAll_any (n + y) _ HB.out.1 HB.out.2).mono ?_; rintro e w4 ⟨v, rfl, hA⟩; have gq := gb.trans (G.trans (by (repeat' (first | (with_reducible exact G.refl _) | (with_reducible refine G.drewN ?_ _) | (with_reducible refine G.drew ?_) | (with_reducible refine G.alloc ?_ _)))) hA.2); clear gb; have gb := gq; obtain ⟨⟨y0, y1, y2⟩, ⟨y3, y4⟩, ⟨y5, y6, y7⟩, f0, f1, f2⟩ := tdt_later gb))
  all_goals
    rw [← hl.out] at hA
    rcases own_cells hA.1 with ⟨rfl, h0⟩ | ⟨g, cap, rfl, hg, hcap, hcap2, hcells⟩
    · obtain ⟨rfl, rfl⟩ := HF0.out (by rw [hF.out, h0]; rfl)
      go_wp2_with fail
      have gfin := gw.trans gb
      go_loopw [7] (fun x wr => x = .int .i64 0 ∧ wr = w4) (fun _ _ => 0)
      case atStart => exact ⟨rfl, rfl⟩
      case round =>
        obtain ⟨rfl, rfl⟩ := hrel
        go_wp2_with fail
        refine bodyPost_ret (v := .tuple #[.agg #[.int .i64 0, .int .i64 0, .int .i64 0], .int .i64 18]) (by simp [results, Tryd.results24, go_sem, y5, y6, y7]) rfl ⟨rfl, ?_⟩
        (repeat' (first | (with_reducible exact G.refl _) | (with_reducible assumption) | (with_reducible refine G.drewN ?_ _) | (with_reducible refine G.drew ?_) | (with_reducible refine G.alloc ?_ _) | (with_reducible refine G.setCell ?_ (by first | (with_reducible exact Nat.le_refl _) | (simp; done) | (simp; omega) | omega) _) | (with_reducible refine G.trans ?_ (by assumption))))
    have HC := Lib.hid hcells
    have HR := Lib.hid (show fndL (p + x) (l.drop 0) = F by rw [hF.out]; rfl)
    have lt4 : w.heap.size + 1 + 1 < w4.heap.size := by have := gb.size; simp at this; omega
    clear hcells hA y0 y1 y2 y3 y4 y5 y6 y7 f0 f1 f2
    go_wp2_with fail
    go_loopg [7] l.length (fun k i wr => ∃ j : Nat, i = .int .i64 j ∧ k = l.length - j ∧ j ≤ l.length ∧ Hid (fndL (p + x) (l.drop j) = F) ∧ G w4 wr)
    case atStart => exact ⟨0, rfl, by omega, by omega, HR, G.refl _⟩
    case round =>
      clear HR
      obtain ⟨j, rfl, hgk, j1, hR, gwr⟩ := hrel
      have HGK := Lib.hid hgk
      clear hgk
      have gbr := gb.trans gwr
      have hlb := HLN.out
      obtain ⟨⟨y0, y1, y2⟩, ⟨y3, y4⟩, ⟨y5, y6, y7⟩, f5, f6, f7⟩ := tdt_later gbr
      by_cases hin : j < l.length
      · obtain ⟨z, hz⟩ : ∃ z, l[j]? = some z := ⟨l[j], List.getElem?_eq_getElem hin⟩
        obtain ⟨c0, c1, c2⟩ := HC.out j z hz
        have d0 := gwr.at c0
        have d1 := gwr.at c1
        have d2 := gwr.at c2
        rw [Nat.mul_comm] at d0 d1 d2
        have HP := Lib.hid (HOK.out z (List.mem_of_getElem? hz))
        have hd := hR.out
        rw [drop_cons hz] at hd
        clear hz c0 c1 c2
        obtain ⟨p1, p2, p3⟩ := z
        dsimp only at d0 d1 d2
        have I1 : Hid (Inr p1 p2 p3) := Lib.hid HP.out.1
        have I2 : Hid (Inr s a o) := Lib.hid HO.out.1
        obtain ⟨K, hK⟩ : ∃ z : Int, Hid (z = 7 * p3 + p1) := ⟨_, rfl⟩
        have hd2 : (if K = p + x then some (p1, p2, p3) else fndL (p + x) (l.drop (j + 1))) = F := by
          rw [← hd]
          unfold fndL
          rw [List.find?_cons]
          by_cases c : K = p + x
          · rw [if_pos c, show atQ (p + x) (p1, p2, p3) = true from decide_eq_true (hK.out ▸ c)]
          · rw [if_neg c, show atQ (p + x) (p1, p2, p3) = false from decide_eq_false (hK.out ▸ c)]
        have qp := HQ.out
        clear hd hR
        by_cases hz : K = p + x
        · rw [if_pos hz] at hd2
          obtain ⟨hZ2, hE2⟩ := HF1.out (p1, p2, p3) hd2.symm
          have HZ2 := Lib.hid hZ2
          have HE2 := Lib.hid hE2
          have hb : (K == p + x) = true := by rw [hz]; simp
          clear hd2 hz hZ2 hE2
          go_wp2_with fail
          have gc := G.refl wr
          go_region_held3 (fun w' => w'.cell? ⟨g, j * 3, none⟩ = some (.int .i64 p1) ∧ w'.cell? ⟨g, j * 3 + 1, none⟩ = some (.int .i64 p2) ∧ w'.cell? ⟨g, j * 3 + 2, none⟩ = some (.int .i64 p3) ∧ w'.cell? ⟨w.heap.size, 0, none⟩ = some (.int .i64 s) ∧ w'.cell? ⟨w.heap.size, 1, none⟩ = some (.int .i64 a) ∧ w'.cell? ⟨w.heap.size, 2, none⟩ = some (.int .i64 o) ∧ w'.cell? ⟨w.heap.size + 1, 0, none⟩ = some (.int .i64 x))
            (first | (with_reducible assumption) | ((try dsimp only); (repeat' (with_reducible apply And.intro)) <;> go_simp))
            (first
            | (go_at_call 40; ((with_reducible refine (rPosition_any p1 p2 p3 _ I1.out).mono ?_); rintro e w9 ⟨rfl, hG9⟩; rw [← hK.out]; have gq := gc.trans (G.trans (by (repeat' (first | (with_reducible exact G.refl _) | (with_reducible refine G.drewN ?_ _) | (with_reducible refine G.drew ?_) | (with_reducible refine G.alloc ?_ _)))) hG9); clear gc; have gc := gq; have d0' := gc.at d0; have d1' := gc.at d1; have d2' := gc.at d2; have y0' := gc.at y0; have y1' := gc.at y1; have y2' := gc.at y2; have y3' := gc.at y3))
            | (go_at_call 40; ((with_reducible refine (rPosition_any s a o _ I2.out).mono ?_); rintro e w9 ⟨rfl, hG9⟩; rw [← hp.out]; have gq := gc.trans (G.trans (by (repeat' (first | (with_reducible exact G.refl _) | (with_reducible refine G.drewN ?_ _) | (with_reducible refine G.drew ?_) | (with_reducible refine G.alloc ?_ _)))) hG9); clear gc; have gc := gq; have d0' := gc.at d0; have d1' := gc.at d1; have d2' := gc.at d2; have y0' := gc.at y0; have y1' := gc.at y1; have y2' := gc.at y2; have y3' := gc.at y3)))
          all_goals
            have g9 := gwr.trans gc
            have gb9 := gb.trans g9
            clear y0 y1 y2 y3 y4 y5 y6 y7 f5 f6 f7
            obtain ⟨⟨y0, y1, y2⟩, ⟨y3, y4⟩, ⟨y5, y6, y7⟩, f5, f6, f7⟩ := tdt_later gb9
            go_wp2_with fail
            have gfin := gw.trans gb9
            refine bodyPost_ret (v := .tuple #[.agg #[.int .i64 p1, .int .i64 p2, .int .i64 p3], .int .i64 0]) (by simp [results, Tryd.results24, go_sem, y5, y6, y7]) rfl ⟨by rw [HZ2.out, HE2.out], ?_⟩
            (repeat' (first | (with_reducible exact G.refl _) | (with_reducible assumption) | (with_reducible refine G.drewN ?_ _) | (with_reducible refine G.drew ?_) | (with_reducible refine G.alloc ?_ _) | (with_reducible refine G.setCell ?_ (by first | (with_reducible exact Nat.le_refl _) | (simp; done) | (simp; omega) | omega) _) | (with_reducible refine G.trans ?_ (by assumption))))
        · rw [if_neg hz] at hd2
          have HD2 := Lib.hid hd2
          have hb : (K == p + x) = false := beq_false_of_ne hz
          clear hd2 hz
          go_wp2_with fail
          have gc := G.refl wr
          go_region_held3 (fun w' => w'.cell? ⟨g, j * 3, none⟩ = some (.int .i64 p1) ∧ w'.cell? ⟨g, j * 3 + 1, none⟩ = some (.int .i64 p2) ∧ w'.cell? ⟨g, j * 3 + 2, none⟩ = some (.int .i64 p3) ∧ w'.cell? ⟨w.heap.size, 0, none⟩ = some (.int .i64 s) ∧ w'.cell? ⟨w.heap.size, 1, none⟩ = some (.int .i64 a) ∧ w'.cell? ⟨w.heap.size, 2, none⟩ = some (.int .i64 o) ∧ w'.cell? ⟨w.heap.size + 1, 0, none⟩ = some (.int .i64 x))
            (first | (with_reducible assumption) | ((try dsimp only); (repeat' (with_reducible apply And.intro)) <;> go_simp))
            (first
            | (go_at_call 40; ((with_reducible refine (rPosition_any p1 p2 p3 _ I1.out).mono ?_); rintro e w9 ⟨rfl, hG9⟩; rw [← hK.out]; have gq := gc.trans (G.trans (by (repeat' (first | (with_reducible exact G.refl _) | (with_reducible refine G.drewN ?_ _) | (with_reducible refine G.drew ?_) | (with_reducible refine G.alloc ?_ _)))) hG9); clear gc; have gc := gq; have d0' := gc.at d0; have d1' := gc.at d1; have d2' := gc.at d2; have y0' := gc.at y0; have y1' := gc.at y1; have y2' := gc.at y2; have y3' := gc.at y3))
            | (go_at_call 40; ((with_reducible refine (rPosition_any s a o _ I2.out).mono ?_); rintro e w9 ⟨rfl, hG9⟩; rw [← hp.out]; have gq := gc.trans (G.trans (by (repeat' (first | (with_reducible exact G.refl _) | (with_reducible refine G.drewN ?_ _) | (with_reducible refine G.drew ?_) | (with_reducible refine G.alloc ?_ _)))) hG9); clear gc; have gc := gq; have d0' := gc.at d0; have d1' := gc.at d1; have d2' := gc.at d2; have y0' := gc.at y0; have y1' := gc.at y1; have y2' := gc.at y2; have y3' := gc.at y3)))
          all_goals
            have g9 := gwr.trans gc
            go_wp2_with fail
            go_roundg (l.length - (j + 1))
            case measure => have := HGK.out; omega
            case rel => exact ⟨j + 1, by go_num, rfl, by omega, HD2, g9⟩
      · obtain rfl : j = l.length := by omega
        have hd := hR.out
        rw [List.drop_length] at hd
        obtain ⟨hZ2, hE2⟩ := HF0.out hd.symm
        have HZ2 := Lib.hid hZ2
        have HE2 := Lib.hid hE2
        clear hd hR hZ2 hE2
        go_wp2_with fail
        have gfin := gw.trans gbr
        refine bodyPost_ret (v := .tuple #[.agg #[.int .i64 0, .int .i64 0, .int .i64 0], .int .i64 18]) (by simp [results, Tryd.results24, go_sem, y5, y6, y7]) rfl ⟨by rw [HZ2.out, HE2.out], ?_⟩
        (repeat' (first | (with_reducible exact G.refl _) | (with_reducible assumption) | (with_reducible refine G.drewN ?_ _) | (with_reducible refine G.drew ?_) | (with_reducible refine G.alloc ?_ _) | (with_reducible refine G.setCell ?_ (by first | (with_reducible exact Nat.le_refl _) | (simp; done) | (simp; omega) | omega) _) | (with_reducible refine G.trans ?_ (by assumption))))

theorem rExact_any (s a o x y : Int) (w : World) :
    Calls Tryd.prog 24 #[.agg #[.int .i64 s, .int .i64 a, .int .i64 o], .agg #[.int .i64 x, .int .i64 y]] w fun e w' => e = .returned (.tuple #[.agg #[.int .i64 (exR s a o x y).1, .int .i64 (exR s a o x y).2.1, .int .i64 (exR s a o x y).2.2], .int .i64 (exE s a o x y)]) ∧ G w w' := by
  by_cases h : Ok s a o ∧ Iv x y
  · exact rExact_ok s a o x y w h.1 h.2
  · have e : exE s a o x y ≠ 0 := fun e => h ⟨(trE_ok (exE_tr e)).1, (trE_ok (exE_tr e)).2.1⟩
    rw [show exR s a o x y = (0, 0, 0) from if_neg e]
    exact rExact_bad s a o x y w h
end Go.Proofs.YtkooggakngheoaaDoor
