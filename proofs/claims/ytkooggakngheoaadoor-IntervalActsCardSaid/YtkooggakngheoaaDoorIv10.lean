import Derived.Test.YtkooggakngheoaaDoorIv9
/-! Intervals: Transpose. -/
namespace Go.Proofs.YtkooggakngheoaaDoor
open Go.RowKit
attribute [local go_sem] World.cell?_alloc_some

def mnL (q : Int) : List P3 → P3
  | [] => (0, 0, 0)
  | e :: r => mnF q e r
theorem mnL_eq {q : Int} {l : List P3} {e : P3} (h : l[0]? = some e) : mnL q l = mnF q e (l.drop 1) := by
  cases l with
  | nil => simp at h
  | cons a r => simp at h; subst h; rfl
def trP (s a o x y : Int) : P3 := mnL (k2 s a o + x) (enh (ht s a o + y) (alts 5))
/-- three blocks of three, two and three cells, with the marks of the last -/
theorem tdt_later {w w1 : World} {a b c d e x y z : Value} {t t' t'' : TypeId} (h : G (((w.alloc (.cells #[a, b, c] t)).alloc (.cells #[d, e] t')).alloc (.cells #[x, y, z] t'')) w1) :
    (w1.cell? ⟨w.heap.size, 0, none⟩ = some a ∧ w1.cell? ⟨w.heap.size, 1, none⟩ = some b ∧ w1.cell? ⟨w.heap.size, 2, none⟩ = some c) ∧
    (w1.cell? ⟨w.heap.size + 1, 0, none⟩ = some d ∧ w1.cell? ⟨w.heap.size + 1, 1, none⟩ = some e) ∧
    (w1.cell? ⟨w.heap.size + 1 + 1, 0, none⟩ = some x ∧ w1.cell? ⟨w.heap.size + 1 + 1, 1, none⟩ = some y ∧ w1.cell? ⟨w.heap.size + 1 + 1, 2, none⟩ = some z) ∧
    w1.frozen? ⟨w.heap.size + 1 + 1, 0, none⟩ = false ∧ w1.frozen? ⟨w.heap.size + 1 + 1, 1, none⟩ = false ∧ w1.frozen? ⟨w.heap.size + 1 + 1, 2, none⟩ = false := by
  refine ⟨⟨?_, ?_, ?_⟩, ⟨?_, ?_⟩, ⟨?_, ?_, ?_⟩, ?_, ?_, ?_⟩
  · rw [h.cell (by simp <;> omega)]; go_cell
  · rw [h.cell (by simp <;> omega)]; go_cell
  · rw [h.cell (by simp <;> omega)]; go_cell
  · rw [h.cell (by simp)]; go_cell
  · rw [h.cell (by simp)]; go_cell
  · rw [h.cell (by simp)]; go_cell
  · rw [h.cell (by simp)]; go_cell
  · rw [h.cell (by simp)]; go_cell
  · rw [h.frozen (by simp)]; simp [go_sem]
  · rw [h.frozen (by simp)]; simp [go_sem]
  · rw [h.frozen (by simp)]; simp [go_sem]

set_option maxRecDepth 20000 in
set_option maxHeartbeats 3200000 in
theorem iTranspose_ok (s a o x y : Int) (w : World) (h : Ok s a o) (hi : Iv x y) (h0 : 0 ≤ ht s a o + y) (h1 : ht s a o + y ≤ 127) (hne : enh (ht s a o + y) (alts 5) ≠ []) (hT : Hts w) :
    Calls Tryd.prog 25 #[.agg #[.int .i64 s, .int .i64 a, .int .i64 o], .agg #[.int .i64 x, .int .i64 y]] w fun e w' => e = .returned (.tuple #[.agg #[.int .i64 (trP s a o x y).1, .int .i64 (trP s a o x y).2.1, .int .i64 (trP s a o x y).2.2], .int .i64 0]) ∧ G w w' := by
  have HT := Lib.hid hT
  have HO := Lib.hid h
  have HI := Lib.hid hi
  obtain ⟨R, hR⟩ : ∃ z : P3, Hid (z = trP s a o x y) := ⟨_, rfl⟩
  rw [← hR.out]
  obtain ⟨p, hp⟩ : ∃ z : Int, Hid (z = k2 s a o) := ⟨_, rfl⟩
  obtain ⟨n, hn⟩ : ∃ z : Int, Hid (z = ht s a o) := ⟨_, rfl⟩
  have pb : -7 ≤ p ∧ p ≤ 69 := by rw [hp.out]; exact ⟨(k_bd s a o).2.2.1, (k_bd s a o).2.2.2⟩
  have HPB := Lib.hid pb
  rw [← hn.out] at h0 h1 hne
  have xb := hi.1
  have HXB := Lib.hid xb
  obtain ⟨m, hm⟩ : ∃ z : Int, Hid (z = n + y) := ⟨_, rfl⟩
  obtain ⟨l, hl⟩ : ∃ z : List P3, Hid (z = enh m (alts 5)) := ⟨_, rfl⟩
  have hlen : l.length ≤ 5 := by rw [hl.out]; have := enh_length m (alts 5); rw [alts_length] at this; exact this
  rw [← hm.out] at h0 h1 hne
  rw [← hl.out] at hne
  have hlp : 1 ≤ l.length := by
    cases l with
    | nil => exact absurd rfl hne
    | cons _ _ => simp
  have q1 : IntKind.i64.wrap (n + y) = m := by rw [← hm.out]; exact IntWalk.i64_in m (by omega)
  have HR := Lib.hid (show R = mnL (p + x) l by rw [hR.out, hl.out, hm.out, hp.out, hn.out]; rfl)
  have gb := G.refl (((w.alloc (.cells #[.int .i64 s, .int .i64 a, .int .i64 o] 41)).alloc (.cells #[.int .i64 x, .int .i64 y] 23)).alloc (.cells #[.int .i64 0, .int .i64 0, .int .i64 0] 41))
  have gw : G w (((w.alloc (.cells #[.int .i64 s, .int .i64 a, .int .i64 o] 41)).alloc (.cells #[.int .i64 x, .int .i64 y] 23)).alloc (.cells #[.int .i64 0, .int .i64 0, .int .i64 0] 41)) := by (repeat' (first | (with_reducible exact G.refl _) | (with_reducible refine G.drewN ?_ _) | (with_reducible refine G.drew ?_) | (with_reducible refine G.alloc ?_ _)))
  clear hT h hi hne pb xb
  go_enter Tryd.func25, Tryd.ntmps25
  go_wp2_with fail
  refine (iPlace_any s a o _ (HT.out.later (by (repeat' (first | (with_reducible exact G.refl _) | (with_reducible assumption) | (with_reducible refine G.drewN ?_ _) | (with_reducible refine G.drew ?_) | (with_reducible refine G.alloc ?_ _) | (with_reducible refine G.setCell ?_ (by first | (with_reducible exact Nat.le_refl _) | (simp; done) | (simp; omega) | omega) _) | (with_reducible refine G.trans ?_ (by assumption))))))).mono ?_
  rintro e w1 ⟨rfl, hG⟩
  rw [er_ok HO.out, ey_ok HO.out, show dia2 s a o = p from hp.out.symm, ← hn.out]
  have gq := gb.trans (G.trans (by (repeat' (first | (with_reducible exact G.refl _) | (with_reducible refine G.drewN ?_ _) | (with_reducible refine G.drew ?_) | (with_reducible refine G.alloc ?_ _)))) hG)
  clear gb
  have gb := gq
  obtain ⟨⟨y0, y1, y2⟩, ⟨y3, y4⟩, ⟨y5, y6, y7⟩, f0, f1, f2⟩ := tdt_later gb
  go_wp2_with fail
  refine (iCheck_any x y _).mono ?_
  rintro e w2 ⟨rfl, hG2⟩
  rw [ie_ok HI.out]
  obtain ⟨z0, z1⟩ := duo_later hG2
  have gq2 := gb.trans (G.trans (by (repeat' (first | (with_reducible exact G.refl _) | (with_reducible refine G.drewN ?_ _) | (with_reducible refine G.drew ?_) | (with_reducible refine G.alloc ?_ _)))) hG2)
  clear gb gq y0 y1 y2 y3 y4 y5 y6 y7 f0 f1 f2
  obtain ⟨⟨y0, y1, y2⟩, ⟨y3, y4⟩, ⟨y5, y6, y7⟩, f0, f1, f2⟩ := tdt_later gq2
  go_wp2_with fail
  refine (OrE_any 0 0 _ _ (by go_cell) (by go_cell)).mono ?_
  rintro e w3 ⟨rfl, rfl⟩
  rw [or0]
  go_wp2_with fail
  refine (Enharmonics_any m _ h0 h1 (HT.out.later (gw.trans (gq2.trans (by (repeat' (first | (with_reducible exact G.refl _) | (with_reducible refine G.drewN ?_ _) | (with_reducible refine G.drew ?_) | (with_reducible refine G.alloc ?_ _)))))))).mono ?_
  rintro e w3 ⟨v, rfl, hown, hG3⟩
  rw [show enh m (alts 5) = l from hl.out.symm] at hown
  have g23 : G w2 w3 := G.trans (by (repeat' (first | (with_reducible exact G.refl _) | (with_reducible refine G.drewN ?_ _) | (with_reducible refine G.drew ?_) | (with_reducible refine G.alloc ?_ _)))) hG3
  replace z0 := g23.at z0
  replace z1 := g23.at z1
  have gq3 := gq2.trans g23
  clear y0 y1 y2 y3 y4 y5 y6 y7 f0 f1 f2
  obtain ⟨⟨y0, y1, y2⟩, ⟨y3, y4⟩, ⟨y5, y6, y7⟩, f0, f1, f2⟩ := tdt_later gq3
  rcases own_cells hown with ⟨_, hq⟩ | ⟨g, cap, rfl, hg, hcap, hcap2, hcells⟩
  · rw [hq] at hlp; exact absurd hlp (by decide)
  have HC := Lib.hid hcells
  clear hcells hown
  obtain ⟨e, he⟩ : ∃ e, l[0]? = some e := ⟨l[0], List.getElem?_eq_getElem hlp⟩
  have HRE := Lib.hid (show R = mnF (p + x) e (l.drop 1) by rw [HR.out]; exact mnL_eq he)
  go_wp2_with fail
  refine (MinFunc_any l e g cap p x w1.heap.size (w.heap.size + 1) w3.heap.size _ he hlen hcap (fun j z hz => by
    obtain ⟨a0, a1, a2⟩ := HC.out j z hz
    exact ⟨(G.alloc (G.refl _) _).at a0, (G.alloc (G.refl _) _).at a1, (G.alloc (G.refl _) _).at a2⟩) HPB.out HXB.out (HT.out.later (gw.trans (gq3.trans (by (repeat' (first | (with_reducible exact G.refl _) | (with_reducible refine G.drewN ?_ _) | (with_reducible refine G.drew ?_) | (with_reducible refine G.alloc ?_ _))))))) (by go_cell) (by go_cell) (by go_cell)).mono ?_
  rintro e9 w5 ⟨rfl, hG5⟩
  rw [← HRE.out]
  have gq5 := gq3.trans (G.trans (by (repeat' (first | (with_reducible exact G.refl _) | (with_reducible refine G.drewN ?_ _) | (with_reducible refine G.drew ?_) | (with_reducible refine G.alloc ?_ _)))) hG5)
  clear y0 y1 y2 y3 y4 y5 y6 y7 f0 f1 f2 z0 z1
  obtain ⟨⟨y0, y1, y2⟩, ⟨y3, y4⟩, ⟨y5, y6, y7⟩, f0, f1, f2⟩ := tdt_later gq5
  go_wp2_with fail
  have gfin := gw.trans gq5
  refine bodyPost_ret (v := .tuple #[.agg #[.int .i64 R.1, .int .i64 R.2.1, .int .i64 R.2.2], .int .i64 0]) (by simp [results, Tryd.results25, go_sem, y5, y6, y7]) rfl ⟨rfl, ?_⟩
  (repeat' (first | (with_reducible exact G.refl _) | (with_reducible assumption) | (with_reducible refine G.drewN ?_ _) | (with_reducible refine G.drew ?_) | (with_reducible refine G.alloc ?_ _) | (with_reducible refine G.setCell ?_ (by first | (with_reducible exact Nat.le_refl _) | (simp; done) | (simp; omega) | omega) _) | (with_reducible refine G.trans ?_ (by assumption))))
end Go.Proofs.YtkooggakngheoaaDoor
