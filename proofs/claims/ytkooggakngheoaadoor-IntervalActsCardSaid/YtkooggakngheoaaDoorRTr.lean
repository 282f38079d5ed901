import Derived.Test.YtkooggakngheoaaDoorRAll
/-! The reference's Between, Transpose. -/
namespace Go.Proofs.YtkooggakngheoaaDoor
open Go.RowKit
attribute [local go_sem] World.cell?_alloc_some

/-- the errors of the reference -/
theorem trE_bad1 {s a o x y : Int} (h : ¬ Ok s a o) : trE s a o x y = 18 := if_neg h
theorem trE_bad2 {s a o x y : Int} (h : Ok s a o) (h2 : ¬ Iv x y) : trE s a o x y = 2 := by unfold trE; rw [if_pos h, if_neg h2]
theorem trE_bad3 {s a o x y : Int} (h : Ok s a o) (h2 : Iv x y) (h3 : ¬ (0 ≤ ht s a o + y ∧ ht s a o + y ≤ 127)) : trE s a o x y = 18 := by unfold trE; rw [if_pos h, if_pos h2, if_neg h3]
theorem trR_bad {s a o x y : Int} (h : trE s a o x y ≠ 0) : trR s a o x y = (0, 0, 0) := if_neg h
theorem mem_of_drop {l : List P3} {j : Nat} {p : P3} (h : l[j]? = some p) : p ∈ l := List.mem_of_getElem? h

set_option maxRecDepth 20000 in
set_option maxHeartbeats 3200000 in
theorem rTranspose_bad (s a o x y : Int) (w : World) (h : ¬ (Ok s a o ∧ Iv x y)) :
    Calls Tryd.prog 26 #[.agg #[.int .i64 s, .int .i64 a, .int .i64 o], .agg #[.int .i64 x, .int .i64 y]] w fun e w' => e = .returned (.tuple #[.agg #[.int .i64 0, .int .i64 0, .int .i64 0], .int .i64 (trE s a o x y)]) ∧ G w w' := by
  have gb := G.refl (((w.alloc (.cells #[.int .i64 s, .int .i64 a, .int .i64 o] 41)).alloc (.cells #[.int .i64 x, .int .i64 y] 23)).alloc (.cells #[.int .i64 0, .int .i64 0, .int .i64 0] 41))
  have gw : G w (((w.alloc (.cells #[.int .i64 s, .int .i64 a, .int .i64 o] 41)).alloc (.cells #[.int .i64 x, .int .i64 y] 23)).alloc (.cells #[.int .i64 0, .int .i64 0, .int .i64 0] 41)) := by (repeat' (first | (with_reducible exact G.refl _) | (with_reducible refine G.drewN ?_ _) | (with_reducible refine G.drew ?_) | (with_reducible refine G.alloc ?_ _)))
  by_cases h1 : Ok s a o
  · have h2 : ¬ Iv x y := fun k => h ⟨h1, k⟩
    rw [trE_bad2 h1 h2]
    have H1 := Lib.hid h1
    have H2 := Lib.hid h2
    clear h h1 h2
    go_enter Tryd.func26, Tryd.ntmps26
    go_wp2_with fail
    refine (rValid_any s a o _).mono ?_
    rintro e w1 ⟨rfl, hG⟩
    rw [decide_eq_true H1.out]
    have gq := gb.trans hG
    obtain ⟨⟨y0, y1, y2⟩, ⟨y3, y4⟩, ⟨y5, y6, y7⟩, f0, f1, f2⟩ := tdt_later gq
    go_wp2_with fail
    refine (rIs_any x y _).mono ?_
    rintro e w2 ⟨rfl, hG2⟩
    rw [decide_eq_false H2.out]
    have gq2 := gq.trans hG2
    clear y0 y1 y2 y3 y4 y5 y6 y7 f0 f1 f2
    obtain ⟨⟨y0, y1, y2⟩, ⟨y3, y4⟩, ⟨y5, y6, y7⟩, f0, f1, f2⟩ := tdt_later gq2
    go_wp2_with fail
    have gfin := gw.trans gq2
    refine bodyPost_ret (v := .tuple #[.agg #[.int .i64 0, .int .i64 0, .int .i64 0], .int .i64 2]) (by simp [results, Tryd.results26, go_sem, y5, y6, y7]) rfl ⟨rfl, ?_⟩
    (repeat' (first | (with_reducible exact G.refl _) | (with_reducible assumption) | (with_reducible refine G.drewN ?_ _) | (with_reducible refine G.drew ?_) | (with_reducible refine G.alloc ?_ _) | (with_reducible refine G.setCell ?_ (by first | (with_reducible exact Nat.le_refl _) | (simp; done) | (simp; omega) | omega) _) | (with_reducible refine G.trans ?_ (by assumption))))
  · rw [trE_bad1 h1]
    have H1 := Lib.hid h1
    clear h h1
    go_enter Tryd.func26, Tryd.ntmps26
    go_wp2_with fail
    refine (rValid_any s a o _).mono ?_
    rintro e w1 ⟨rfl, hG⟩
    rw [decide_eq_false H1.out]
    have gq := gb.trans hG
    obtain ⟨⟨y0, y1, y2⟩, ⟨y3, y4⟩, ⟨y5, y6, y7⟩, f0, f1, f2⟩ := tdt_later gq
    go_wp2_with fail
    have gfin := gw.trans gq
    refine bodyPost_ret (v := .tuple #[.agg #[.int .i64 0, .int .i64 0, .int .i64 0], .int .i64 18]) (by simp [results, Tryd.results26, go_sem, y5, y6, y7]) rfl ⟨rfl, ?_⟩
    (repeat' (first | (with_reducible exact G.refl _) | (with_reducible assumption) | (with_reducible refine G.drewN ?_ _) | (with_reducible refine G.drew ?_) | (with_reducible refine G.alloc ?_ _) | (with_reducible refine G.setCell ?_ (by first | (with_reducible exact Nat.le_refl _) | (simp; done) | (simp; omega) | omega) _) | (with_reducible refine G.trans ?_ (by assumption))))

set_option maxRecDepth 20000 in
set_option maxHeartbeats 6400000 in
theorem rTranspose_ok (s a o x y : Int) (w : World) (h : Ok s a o) (hi : Iv x y) :
    Calls Tryd.prog 26 #[.agg #[.int .i64 s, .int .i64 a, .int .i64 o], .agg #[.int .i64 x, .int .i64 y]] w fun e w' => e = .returned (.tuple #[.agg #[.int .i64 (trR s a o x y).1, .int .i64 (trR s a o x y).2.1, .int .i64 (trR s a o x y).2.2], .int .i64 (trE s a o x y)]) ∧ G w w' := by
  have gb := G.refl (((w.alloc (.cells #[.int .i64 s, .int .i64 a, .int .i64 o] 41)).alloc (.cells #[.int .i64 x, .int .i64 y] 23)).alloc (.cells #[.int .i64 0, .int .i64 0, .int .i64 0] 41))
  have gw : G w (((w.alloc (.cells #[.int .i64 s, .int .i64 a, .int .i64 o] 41)).alloc (.cells #[.int .i64 x, .int .i64 y] 23)).alloc (.cells #[.int .i64 0, .int .i64 0, .int .i64 0] 41)) := by (repeat' (first | (with_reducible exact G.refl _) | (with_reducible refine G.drewN ?_ _) | (with_reducible refine G.drew ?_) | (with_reducible refine G.alloc ?_ _)))
  obtain ⟨Z, hZ⟩ : ∃ z : Int × Int × Int, Hid (z = trR s a o x y) := ⟨_, rfl⟩
  obtain ⟨E, hE⟩ : ∃ z : Int, Hid (z = trE s a o x y) := ⟨_, rfl⟩
  rw [← hZ.out, ← hE.out]
  have HO := Lib.hid h
  have HI := Lib.hid hi
  obtain ⟨n, hn⟩ : ∃ z : Int, Hid (z = ht s a o) := ⟨_, rfl⟩
  obtain ⟨p, hp⟩ : ∃ z : Int, Hid (z = 7 * o + s) := ⟨_, rfl⟩
  have nb : 0 ≤ n ∧ n ≤ 127 := by rw [hn.out]; exact h.2
  have pb : -7 ≤ p ∧ p ≤ 69 := by
    obtain ⟨⟨⟨_, _⟩, _, _, _⟩, _⟩ := h
    rw [hp.out]; omega
  obtain ⟨⟨x0, x1⟩, z0, z1⟩ := hi
  have q1 := IntWalk.i64_in (n + y) (by omega)
  have HQ := Lib.hid (IntWalk.i64_in (p + x) (by omega))
  obtain ⟨l, hl⟩ : ∃ z : List P3, Hid (z = allO (n + y) 11) := ⟨_, rfl⟩
  have HLN := Lib.hid (show l.length ≤ 100 by rw [hl.out]; have := allO_len (n + y) 11; omega)
  have HB := Lib.hid (show -1000 ≤ n + y ∧ n + y ≤ 1000 by omega)
  have HPX := Lib.hid (show (-7 ≤ p ∧ p ≤ 69) ∧ -77 ≤ x ∧ x ≤ 77 from ⟨pb, x0, x1⟩)
  have HL0 := Lib.hid (show l = [] → Z = (0, 0, 0) ∧ E = 18 by
    intro e
    have hne : ¬ (0 ≤ Go.Proofs.YtkooggakngheoaaDoor.ht s a o + y ∧ Go.Proofs.YtkooggakngheoaaDoor.ht s a o + y ≤ 127) := fun k => by
      rw [hl.out, hn.out, all_eq k.1 k.2] at e
      exact enh_ne k.1 k.2 e
    have e2 : trE s a o x y = 18 := trE_bad3 HO.out HI.out hne
    rw [hZ.out, hE.out, e2]
    exact ⟨trR_bad (by rw [e2]; decide), rfl⟩)
  have HL1 := Lib.hid (show l ≠ [] → E = 0 ∧ Z = tbL (p + x) l ∧ ∀ q ∈ l, OkQ q by
    intro e
    have hne : 0 ≤ Go.Proofs.YtkooggakngheoaaDoor.ht s a o + y ∧ Go.Proofs.YtkooggakngheoaaDoor.ht s a o + y ≤ 127 := by
      by_cases k : 0 ≤ Go.Proofs.YtkooggakngheoaaDoor.ht s a o + y ∧ Go.Proofs.YtkooggakngheoaaDoor.ht s a o + y ≤ 127
      · exact k
      · rw [hl.out, hn.out, all_out k] at e; exact absurd rfl e
    have e2 : trE s a o x y = 0 := trE_of HO.out HI.out hne.1 hne.2
    have e3 : l = enh (Go.Proofs.YtkooggakngheoaaDoor.ht s a o + y) (alts 5) := by rw [hl.out, hn.out]; exact all_eq hne.1 hne.2
    refine ⟨hE.out.trans e2, ?_, fun q hq => ((enh_gd hne.1 hne.2).1 q (e3 ▸ hq)).1⟩
    rw [hZ.out, show trR s a o x y = trP s a o x y from if_pos e2, e3]
    show mnL (k2 s a o + x) _ = _
    rw [show k2 s a o = 7 * o + s from if_pos HO.out, hp.out]
    exact mnL_tb hne.1 hne.2)
  clear h nb pb x0 x1 z0 z1
  go_enter Tryd.func26, Tryd.ntmps26
  go_wp2_with fail
  refine (rValid_any s a o _).mono ?_
  rintro e w1 ⟨rfl, hG⟩
  rw [decide_eq_true HO.out]
  have gq := gb.trans hG
  clear gb
  obtain ⟨⟨y0, y1, y2⟩, ⟨y3, y4⟩, ⟨y5, y6, y7⟩, f0, f1, f2⟩ := tdt_later gq
  go_wp2_with fail
  refine (rIs_any x y _).mono ?_
  rintro e w2 ⟨rfl, hG2⟩
  rw [decide_eq_true HI.out]
  have gb := gq.trans hG2
  clear y0 y1 y2 y3 y4 y5 y6 y7 f0 f1 f2 gq
  obtain ⟨⟨y0, y1, y2⟩, ⟨y3, y4⟩, ⟨y5, y6, y7⟩, f0, f1, f2⟩ := tdt_later gb
  go_wp2_with fail
  go_region_held3 (fun w' => w'.cell? ⟨w.heap.size, 0, none⟩ = some (.int .i64 s) ∧ w'.cell? ⟨w.heap.size, 1, none⟩ = some (.int .i64 a) ∧ w'.cell? ⟨w.heap.size, 2, none⟩ = some (.int .i64 o) ∧ w'.cell? ⟨w.heap.size + 1, 0, none⟩ = some (.int .i64 x) ∧ w'.cell? ⟨w.heap.size + 1, 1, none⟩ = some (.int .i64 y))
    (first | (with_reducible assumption) | ((try dsimp only); (repeat' (with_reducible apply And.intro)) <;> go_simp))
    (first
      | (go_at_call 27; refine (rNumber_any s a o _ HO.out.1).mono ?_; rintro e w3 ⟨rfl, hG3⟩; rw [← hn.out]; have gq := gb.trans (G.trans (by (repeat' (first | (with_reducible exact G.refl _) | (with_reducible refine G.drewN ?_ _) | (with_reducible refine G.drew ?_) | (with_reducible refine G.alloc ?_ _)))) hG3); clear gb; have gb := gq; obtain ⟨⟨y0, y1, y2⟩, ⟨y3, y4⟩, ⟨y5, y6, y7⟩, f0, f1, f2⟩ := tdt_later gb)
      | (go_at_call 29; refine (rAll_any (n + y) _ HB.out.1 HB.out.2).mono ?_; rintro e w4 ⟨v, rfl, hA⟩; have gq := gb.trans (G.trans (by (repeat' (first | (with_reducible exact G.refl _) | (with_reducible refine G.drewN ?_ _) | (with_reducible refine G.drew ?_) | (with_reducible refine G.alloc ?_ _)))) hA.2); clear gb; have gb := gq; obtain ⟨⟨y0, y1, y2⟩, ⟨y3, y4⟩, ⟨y5, y6, y7⟩, f0, f1, f2⟩ := tdt_later gb))
  all_goals
    rw [← hl.out] at hA
    have gA := gb
    rcases own_cells hA.1 with ⟨rfl, h0⟩ | ⟨g, cap, rfl, hg, hcap, hcap2, hcells⟩
    · obtain ⟨rfl, rfl⟩ := HL0.out h0
      go_wp2_with fail
      have gfin := gw.trans gb
      refine bodyPost_ret (v := .tuple #[.agg #[.int .i64 0, .int .i64 0, .int .i64 0], .int .i64 18]) (by simp [results, Tryd.results26, go_sem, y5, y6, y7]) rfl ⟨rfl, ?_⟩
      (repeat' (first | (with_reducible exact G.refl _) | (with_reducible assumption) | (with_reducible refine G.drewN ?_ _) | (with_reducible refine G.drew ?_) | (with_reducible refine G.alloc ?_ _) | (with_reducible refine G.setCell ?_ (by first | (with_reducible exact Nat.le_refl _) | (simp; done) | (simp; omega) | omega) _) | (with_reducible refine G.trans ?_ (by assumption))))
    by_cases hne : l = []
    · obtain ⟨rfl, rfl⟩ := HL0.out hne
      have hz : l.length = 0 := by rw [hne]; rfl
      go_wp2_with fail
      have gfin := gw.trans gb
      refine bodyPost_ret (v := .tuple #[.agg #[.int .i64 0, .int .i64 0, .int .i64 0], .int .i64 18]) (by simp [results, Tryd.results26, go_sem, y5, y6, y7]) rfl ⟨rfl, ?_⟩
      (repeat' (first | (with_reducible exact G.refl _) | (with_reducible assumption) | (with_reducible refine G.drewN ?_ _) | (with_reducible refine G.drew ?_) | (with_reducible refine G.alloc ?_ _) | (with_reducible refine G.setCell ?_ (by first | (with_reducible exact Nat.le_refl _) | (simp; done) | (simp; omega) | omega) _) | (with_reducible refine G.trans ?_ (by assumption))))
    obtain ⟨rfl, hZt, hoks⟩ := HL1.out hne
    have hlp : 1 ≤ l.length := by
      cases l with
      | nil => exact absurd rfl hne
      | cons _ _ => simp
    obtain ⟨e0, he⟩ : ∃ e, l[0]? = some e := ⟨l[0], List.getElem?_eq_getElem hlp⟩
    obtain ⟨c0, c1, c2⟩ := hcells 0 e0 he
    dsimp only [Nat.mul_zero, Nat.zero_add] at c0 c1 c2
    have HC := Lib.hid hcells
    have HOK := Lib.hid hoks
    have HR := Lib.hid (show tbF (p + x) e0 (l.drop 1) = Z by
      rw [hZt]
      cases l with
      | nil => simp at he
      | cons a r => simp at he; subst he; rfl)
    have HE0 := Lib.hid (hoks e0 (List.mem_of_getElem? he))
    have HLP := Lib.hid hlp
    have hl1 : ((l.length : Int) == 0) = false := beq_false_of_ne (by omega)
    clear hne hZt hoks hcells HL0 HL1 hA
    obtain ⟨e1, e2, e3⟩ := e0
    dsimp only at c0 c1 c2
    clear he
    go_wp2_with fail
    have gWL : G w4 (w4.alloc (.cells #[.int .i64 e1, .int .i64 e2, .int .i64 e3] 41)) := by (repeat' (first | (with_reducible exact G.refl _) | (with_reducible refine G.drewN ?_ _) | (with_reducible refine G.drew ?_) | (with_reducible refine G.alloc ?_ _)))
    have bt0 : Bt (w4.alloc (.cells #[.int .i64 e1, .int .i64 e2, .int .i64 e3] 41)) w4.heap.size (e1, e2, e3) := by
      obtain ⟨⟨a0, a1, a2⟩, a3, a4, a5⟩ := trif_later (G.refl (w4.alloc (.cells #[.int .i64 e1, .int .i64 e2, .int .i64 e3] 41)))
      exact ⟨⟨a0, a1, a2⟩, a3, a4, a5⟩
    have lt4 : w.heap.size + 1 + 1 < w4.heap.size := by have := gb.size; simp at this; omega
    have gl4 : g < w4.heap.size := cell_lt c0
    generalize w4.alloc (.cells #[.int .i64 e1, .int .i64 e2, .int .i64 e3] 41) = WL at *
    clear c0 c1 c2 y0 y1 y2 y3 y4 y5 y6 y7 f0 f1 f2
    go_loopg [8] (l.length - 1) (fun k i wr => ∃ (j : Nat) (out : P3), i = .int .i64 j ∧ k = l.length - j ∧ 1 ≤ j ∧ j ≤ l.length ∧ Hid (tbF (p + x) out (l.drop j) = Z) ∧ Hid (OkQ out) ∧ Bt wr w4.heap.size out ∧ G w4 wr)
    case atStart => exact ⟨1, (e1, e2, e3), rfl, rfl, by omega, hlp, HR, HE0, bt0, gWL⟩
    case round =>
      clear bt0 gWL
      obtain ⟨j, out, rfl, hgk, j0, j1, hR, hO, hB, gwr⟩ := hrel
      have HGK := Lib.hid hgk
      clear hgk
      obtain ⟨o1, o2, o3⟩ := out
      obtain ⟨⟨b0, b1, b2⟩, f0, f1, f2⟩ := id hB
      dsimp only at b0 b1 b2
      have gbr := gb.trans gwr
      have hlb := HLN.out
      obtain ⟨⟨y0, y1, y2⟩, ⟨y3, y4⟩, ⟨y5, y6, y7⟩, f5, f6, f7⟩ := tdt_later gbr
      by_cases hin : j < l.length
      · obtain ⟨z, hz⟩ : ∃ z, l[j]? = some z := ⟨l[j], List.getElem?_eq_getElem hin⟩
        obtain ⟨c0, c1, c2⟩ := HC.out j z hz
        have d0 := gwr.at c0
        have d1 := gwr.at c1
        have d2 := gwr.at c2
        rw [Nat.mul_comm] at d0 d1 d2
        have HP := Lib.hid (HOK.out z (List.mem_of_getElem? hz))
        have hd := hR.out
        rw [drop_cons hz] at hd
        clear hz c0 c1 c2
        obtain ⟨p1, p2, p3⟩ := z
        dsimp only at d0 d1 d2
        have I1 : Hid (Inr p1 p2 p3) := Lib.hid HP.out.1
        have I2 : Hid (Inr s a o) := Lib.hid HO.out.1
        have I3 : Hid (Inr o1 o2 o3) := Lib.hid hO.out.1
        obtain ⟨K, hK⟩ : ∃ z : Int, Hid (z = 7 * p3 + p1) := ⟨_, rfl⟩
        obtain ⟨B, hB1⟩ : ∃ z : Int, Hid (z = 7 * o3 + o1) := ⟨_, rfl⟩
        obtain ⟨D1, hD1⟩ : ∃ z : Int, Hid (z = rdst K (p + x)) := ⟨_, rfl⟩
        obtain ⟨D2, hD2⟩ : ∃ z : Int, Hid (z = rdst B (p + x)) := ⟨_, rfl⟩
        have HD := Lib.hid (show (-1000 ≤ K ∧ K ≤ 1000) ∧ (-1000 ≤ B ∧ B ≤ 1000) ∧ -1000 ≤ p + x ∧ p + x ≤ 1000 by
          obtain ⟨⟨_, _⟩, _, _⟩ := HPX.out
          obtain ⟨⟨⟨_, _⟩, _, _, _⟩, _⟩ := HP.out
          obtain ⟨⟨⟨_, _⟩, _, _, _⟩, _⟩ := hO.out
          have e1 := hK.out
          have e2 := hB1.out
          dsimp only at *
          omega)
        have HDa : Hid (-1000 ≤ K ∧ K ≤ 1000) := Lib.hid HD.out.1
        have HDb : Hid (-1000 ≤ B ∧ B ≤ 1000) := Lib.hid HD.out.2.1
        have HDc : Hid (-1000 ≤ p + x ∧ p + x ≤ 1000) := Lib.hid HD.out.2.2
        have hd2 : tbF (p + x) (if D1 < D2 then (p1, p2, p3) else (o1, o2, o3)) (l.drop (j + 1)) = Z := by rw [hD1.out, hD2.out, hK.out, hB1.out]; exact hd
        have qp := HQ.out
        clear hd hR
        by_cases hz : D1 < D2
        · rw [if_pos hz] at hd2
          have HD2 := Lib.hid hd2
          clear hd2
          go_wp2_with fail
          have gc := G.refl wr
          go_region_held3 (fun w' => w'.cell? ⟨g, j * 3, none⟩ = some (.int .i64 p1) ∧ w'.cell? ⟨g, j * 3 + 1, none⟩ = some (.int .i64 p2) ∧ w'.cell? ⟨g, j * 3 + 2, none⟩ = some (.int .i64 p3) ∧ w'.cell? ⟨w4.heap.size, 0, none⟩ = some (.int .i64 o1) ∧ w'.cell? ⟨w4.heap.size, 1, none⟩ = some (.int .i64 o2) ∧ w'.cell? ⟨w4.heap.size, 2, none⟩ = some (.int .i64 o3) ∧ w'.cell? ⟨w.heap.size, 0, none⟩ = some (.int .i64 s) ∧ w'.cell? ⟨w.heap.size, 1, none⟩ = some (.int .i64 a) ∧ w'.cell? ⟨w.heap.size, 2, none⟩ = some (.int .i64 o) ∧ w'.cell? ⟨w.heap.size + 1, 0, none⟩ = some (.int .i64 x))
            (first | (with_reducible assumption) | ((try dsimp only); (repeat' (with_reducible apply And.intro)) <;> go_simp))
            (first
            | (go_at_call 40; ((with_reducible refine (rPosition_any p1 p2 p3 _ I1.out).mono ?_); rintro e w9 ⟨rfl, hG9⟩; rw [← hK.out]; have gq := gc.trans (G.trans (by (repeat' (first | (with_reducible exact G.refl _) | (with_reducible refine G.drewN ?_ _) | (with_reducible refine G.drew ?_) | (with_reducible refine G.alloc ?_ _)))) hG9); clear gc; have gc := gq; have d0' := gc.at d0; have d1' := gc.at d1; have d2' := gc.at d2; have b0' := gc.at b0; have b1' := gc.at b1; have b2' := gc.at b2; have y0' := gc.at y0; have y1' := gc.at y1; have y2' := gc.at y2; have y3' := gc.at y3))
            | (go_at_call 40; ((with_reducible refine (rPosition_any s a o _ I2.out).mono ?_); rintro e w9 ⟨rfl, hG9⟩; rw [← hp.out]; have gq := gc.trans (G.trans (by (repeat' (first | (with_reducible exact G.refl _) | (with_reducible refine G.drewN ?_ _) | (with_reducible refine G.drew ?_) | (with_reducible refine G.alloc ?_ _)))) hG9); clear gc; have gc := gq; have d0' := gc.at d0; have d1' := gc.at d1; have d2' := gc.at d2; have b0' := gc.at b0; have b1' := gc.at b1; have b2' := gc.at b2; have y0' := gc.at y0; have y1' := gc.at y1; have y2' := gc.at y2; have y3' := gc.at y3))
            | (go_at_call 40; ((with_reducible refine (rPosition_any o1 o2 o3 _ I3.out).mono ?_); rintro e w9 ⟨rfl, hG9⟩; rw [← hB1.out]; have gq := gc.trans (G.trans (by (repeat' (first | (with_reducible exact G.refl _) | (with_reducible refine G.drewN ?_ _) | (with_reducible refine G.drew ?_) | (with_reducible refine G.alloc ?_ _)))) hG9); clear gc; have gc := gq; have d0' := gc.at d0; have d1' := gc.at d1; have d2' := gc.at d2; have b0' := gc.at b0; have b1' := gc.at b1; have b2' := gc.at b2; have y0' := gc.at y0; have y1' := gc.at y1; have y2' := gc.at y2; have y3' := gc.at y3))
            | (go_at_call 49; ((with_reducible refine (rDistance_any K (p + x) _ HDa.out HDc.out).mono ?_); rintro e w9 ⟨rfl, hG9⟩; rw [← hD1.out]; have gq := gc.trans (G.trans (by (repeat' (first | (with_reducible exact G.refl _) | (with_reducible refine G.drewN ?_ _) | (with_reducible refine G.drew ?_) | (with_reducible refine G.alloc ?_ _)))) hG9); clear gc; have gc := gq; have d0' := gc.at d0; have d1' := gc.at d1; have d2' := gc.at d2; have b0' := gc.at b0; have b1' := gc.at b1; have b2' := gc.at b2; have y0' := gc.at y0; have y1' := gc.at y1; have y2' := gc.at y2; have y3' := gc.at y3))
            | (go_at_call 49; ((with_reducible refine (rDistance_any B (p + x) _ HDb.out HDc.out).mono ?_); rintro e w9 ⟨rfl, hG9⟩; rw [← hD2.out]; have gq := gc.trans (G.trans (by (repeat' (first | (with_reducible exact G.refl _) | (with_reducible refine G.drewN ?_ _) | (with_reducible refine G.drew ?_) | (with_reducible refine G.alloc ?_ _)))) hG9); clear gc; have gc := gq; have d0' := gc.at d0; have d1' := gc.at d1; have d2' := gc.at d2; have b0' := gc.at b0; have b1' := gc.at b1; have b2' := gc.at b2; have y0' := gc.at y0; have y1' := gc.at y1; have y2' := gc.at y2; have y3' := gc.at y3)))
          all_goals
            have hB9 := Bt.later hB gc
            have g9 := gwr.trans gc
            clear b0 b1 b2 f0 f1 f2
            obtain ⟨⟨b0, b1, b2⟩, f0, f1, f2⟩ := id hB9
            dsimp only at b0 b1 b2
            go_wp2_with fail
            go_roundg (l.length - (j + 1))
            case measure => have := HGK.out; omega
            case rel => exact ⟨j + 1, (p1, p2, p3), by go_num, rfl, by omega, by omega, HD2, HP, hB9.set (p1, p2, p3), by (repeat' (first | (with_reducible exact G.refl _) | (with_reducible assumption) | (with_reducible refine G.drewN ?_ _) | (with_reducible refine G.drew ?_) | (with_reducible refine G.alloc ?_ _) | (with_reducible refine G.setCell ?_ (by first | (with_reducible exact Nat.le_refl _) | (simp; done) | (simp; omega) | omega) _) | (with_reducible refine G.trans ?_ (by assumption))))⟩
        · rw [if_neg hz] at hd2
          have HD2 := Lib.hid hd2
          clear hd2
          go_wp2_with fail
          have gc := G.refl wr
          go_region_held3 (fun w' => w'.cell? ⟨g, j * 3, none⟩ = some (.int .i64 p1) ∧ w'.cell? ⟨g, j * 3 + 1, none⟩ = some (.int .i64 p2) ∧ w'.cell? ⟨g, j * 3 + 2, none⟩ = some (.int .i64 p3) ∧ w'.cell? ⟨w4.heap.size, 0, none⟩ = some (.int .i64 o1) ∧ w'.cell? ⟨w4.heap.size, 1, none⟩ = some (.int .i64 o2) ∧ w'.cell? ⟨w4.heap.size, 2, none⟩ = some (.int .i64 o3) ∧ w'.cell? ⟨w.heap.size, 0, none⟩ = some (.int .i64 s) ∧ w'.cell? ⟨w.heap.size, 1, none⟩ = some (.int .i64 a) ∧ w'.cell? ⟨w.heap.size, 2, none⟩ = some (.int .i64 o) ∧ w'.cell? ⟨w.heap.size + 1, 0, none⟩ = some (.int .i64 x))
            (first | (with_reducible assumption) | ((try dsimp only); (repeat' (with_reducible apply And.intro)) <;> go_simp))
            (first
            | (go_at_call 40; ((with_reducible refine (rPosition_any p1 p2 p3 _ I1.out).mono ?_); rintro e w9 ⟨rfl, hG9⟩; rw [← hK.out]; have gq := gc.trans (G.trans (by (repeat' (first | (with_reducible exact G.refl _) | (with_reducible refine G.drewN ?_ _) | (with_reducible refine G.drew ?_) | (with_reducible refine G.alloc ?_ _)))) hG9); clear gc; have gc := gq; have d0' := gc.at d0; have d1' := gc.at d1; have d2' := gc.at d2; have b0' := gc.at b0; have b1' := gc.at b1; have b2' := gc.at b2; have y0' := gc.at y0; have y1' := gc.at y1; have y2' := gc.at y2; have y3' := gc.at y3))
            | (go_at_call 40; ((with_reducible refine (rPosition_any s a o _ I2.out).mono ?_); rintro e w9 ⟨rfl, hG9⟩; rw [← hp.out]; have gq := gc.trans (G.trans (by (repeat' (first | (with_reducible exact G.refl _) | (with_reducible refine G.drewN ?_ _) | (with_reducible refine G.drew ?_) | (with_reducible refine G.alloc ?_ _)))) hG9); clear gc; have gc := gq; have d0' := gc.at d0; have d1' := gc.at d1; have d2' := gc.at d2; have b0' := gc.at b0; have b1' := gc.at b1; have b2' := gc.at b2; have y0' := gc.at y0; have y1' := gc.at y1; have y2' := gc.at y2; have y3' := gc.at y3))
            | (go_at_call 40; ((with_reducible refine (rPosition_any o1 o2 o3 _ I3.out).mono ?_); rintro e w9 ⟨rfl, hG9⟩; rw [← hB1.out]; have gq := gc.trans (G.trans (by (repeat' (first | (with_reducible exact G.refl _) | (with_reducible refine G.drewN ?_ _) | (with_reducible refine G.drew ?_) | (with_reducible refine G.alloc ?_ _)))) hG9); clear gc; have gc := gq; have d0' := gc.at d0; have d1' := gc.at d1; have d2' := gc.at d2; have b0' := gc.at b0; have b1' := gc.at b1; have b2' := gc.at b2; have y0' := gc.at y0; have y1' := gc.at y1; have y2' := gc.at y2; have y3' := gc.at y3))
            | (go_at_call 49; ((with_reducible refine (rDistance_any K (p + x) _ HDa.out HDc.out).mono ?_); rintro e w9 ⟨rfl, hG9⟩; rw [← hD1.out]; have gq := gc.trans (G.trans (by (repeat' (first | (with_reducible exact G.refl _) | (with_reducible refine G.drewN ?_ _) | (with_reducible refine G.drew ?_) | (with_reducible refine G.alloc ?_ _)))) hG9); clear gc; have gc := gq; have d0' := gc.at d0; have d1' := gc.at d1; have d2' := gc.at d2; have b0' := gc.at b0; have b1' := gc.at b1; have b2' := gc.at b2; have y0' := gc.at y0; have y1' := gc.at y1; have y2' := gc.at y2; have y3' := gc.at y3))
            | (go_at_call 49; ((with_reducible refine (rDistance_any B (p + x) _ HDb.out HDc.out).mono ?_); rintro e w9 ⟨rfl, hG9⟩; rw [← hD2.out]; have gq := gc.trans (G.trans (by (repeat' (first | (with_reducible exact G.refl _) | (with_reducible refine G.drewN ?_ _) | (with_reducible refine G.drew ?_) | (with_reducible refine G.alloc ?_ _)))) hG9); clear gc; have gc := gq; have d0' := gc.at d0; have d1' := gc.at d1; have d2' := gc.at d2; have b0' := gc.at b0; have b1' := gc.at b1; have b2' := gc.at b2; have y0' := gc.at y0; have y1' := gc.at y1; have y2' := gc.at y2; have y3' := gc.at y3)))
          all_goals
            have hB9 := Bt.later hB gc
            have g9 := gwr.trans gc
            go_wp2_with fail
            go_roundg (l.length - (j + 1))
            case measure => have := HGK.out; omega
            case rel => exact ⟨j + 1, (o1, o2, o3), by go_num, rfl, by omega, by omega, HD2, hO, hB9, g9⟩
      · obtain rfl : j = l.length := by omega
        have hd := hR.out
        rw [List.drop_length] at hd
        have HRP := Lib.hid (show Z = (o1, o2, o3) from hd.symm)
        clear hd hR
        go_wp2_with fail
        have gfin := gw.trans gbr
        refine bodyPost_ret (v := .tuple #[.agg #[.int .i64 o1, .int .i64 o2, .int .i64 o3], .int .i64 0]) (by simp [results, Tryd.results26, go_sem, y5, y6, y7]) rfl ⟨by rw [HRP.out], ?_⟩
        (repeat' (first | (with_reducible exact G.refl _) | (with_reducible assumption) | (with_reducible refine G.drewN ?_ _) | (with_reducible refine G.drew ?_) | (with_reducible refine G.alloc ?_ _) | (with_reducible refine G.setCell ?_ (by first | (with_reducible exact Nat.le_refl _) | (simp; done) | (simp; omega) | omega) _) | (with_reducible refine G.trans ?_ (by assumption))))

theorem rTranspose_any (s a o x y : Int) (w : World) :
    Calls Tryd.prog 26 #[.agg #[.int .i64 s, .int .i64 a, .int .i64 o], .agg #[.int .i64 x, .int .i64 y]] w fun e w' => e = .returned (.tuple #[.agg #[.int .i64 (trR s a o x y).1, .int .i64 (trR s a o x y).2.1, .int .i64 (trR s a o x y).2.2], .int .i64 (trE s a o x y)]) ∧ G w w' := by
  by_cases h : Ok s a o ∧ Iv x y
  · exact rTranspose_ok s a o x y w h.1 h.2
  · have e : trE s a o x y ≠ 0 := fun e => h ⟨(trE_ok e).1, (trE_ok e).2.1⟩
    rw [trR_bad e]
    exact rTranspose_bad s a o x y w h
end Go.Proofs.YtkooggakngheoaaDoor
