import Derived.Test.YtkooggakngheoaaDoorIv8
import Derived.Test.YtkooggakngheoaaDoorEnh
/-! The least of a list of pitches by nearness: slices.MinFunc. -/
namespace Go.Proofs.YtkooggakngheoaaDoor
open Go.RowKit
attribute [local go_sem] World.cell?_alloc_some

theorem flat_get : ∀ (l : List P3) (i : Nat) (p : P3), l[i]? = some p → (flat l)[3 * i]? = some (.int .i64 p.1) ∧ (flat l)[3 * i + 1]? = some (.int .i64 p.2.1) ∧ (flat l)[3 * i + 2]? = some (.int .i64 p.2.2)
  | [], i, p, h => by simp at h
  | q :: l, 0, p, h => by
    simp at h; subst h
    simp [flat, cells3]
  | q :: l, i + 1, p, h => by
    have k := flat_get l i p (by simpa using h)
    have e : flat (q :: l) = cells3 q ++ flat l := by simp [flat]
    have l3 : (cells3 q).length = 3 := rfl
    rw [e]
    refine ⟨?_, ?_, ?_⟩
    · rw [List.getElem?_append_right (by omega), l3, show 3 * (i + 1) - 3 = 3 * i by omega]; exact k.1
    · rw [List.getElem?_append_right (by omega), l3, show 3 * (i + 1) + 1 - 3 = 3 * i + 1 by omega]; exact k.2.1
    · rw [List.getElem?_append_right (by omega), l3, show 3 * (i + 1) + 2 - 3 = 3 * i + 2 by omega]; exact k.2.2

/-- a slice of pitches: where it lies, and its cells -/
theorem own_cells {W : World} {base : Nat} {e : TypeId} {v : Value} {l : List P3} (h : W.ownsRow base e 3 v l.length (flat l)) :
    (v = .slice none 0 0 ∧ l = []) ∨ ∃ g cap, v = .slice (some ⟨g, 0, none⟩) l.length cap ∧ base ≤ g ∧ l.length ≤ cap ∧ cap ≤ maxLen ∧ ∀ (i : Nat) (p : P3), l[i]? = some p →
      W.cell? ⟨g, 3 * i, none⟩ = some (.int .i64 p.1) ∧ W.cell? ⟨g, 3 * i + 1, none⟩ = some (.int .i64 p.2.1) ∧ W.cell? ⟨g, 3 * i + 2, none⟩ = some (.int .i64 p.2.2) := by
  rcases h.2 with ⟨h1, h2⟩ | ⟨g, cap, cur, h1, h2, h3, h4, h5, h6, h7⟩
  · exact .inl ⟨h1, List.length_eq_zero_iff.1 h2⟩
  · refine .inr ⟨g, cap, h1, h2, h4, h5, fun i p hp => ?_⟩
    obtain ⟨x0, x1, x2⟩ := flat_get l i p hp
    have get : ∀ (j : Nat) (u : Value), (flat l)[j]? = some u → W.cell? ⟨g, j, none⟩ = some u := by
      intro j u hj
      rw [← h7] at hj
      have hj2 : cur.toList[j]? = some u := by
        rw [List.getElem?_take] at hj
        split at hj
        · exact hj
        · simp at hj
      simp only [World.cell?, h3]
      simpa using hj2
    exact ⟨get _ _ x0, get _ _ x1, get _ _ x2⟩

theorem set3b {w : World} {b : Nat} {x y z u v t : Value} (h0 : w.cell? ⟨b, 0, none⟩ = some x) (h1 : w.cell? ⟨b, 1, none⟩ = some y) (h2 : w.cell? ⟨b, 2, none⟩ = some z) :
    (((w.setCell ⟨b, 0, none⟩ u).setCell ⟨b, 1, none⟩ v).setCell ⟨b, 2, none⟩ t).cell? ⟨b, 0, none⟩ = some u ∧
    (((w.setCell ⟨b, 0, none⟩ u).setCell ⟨b, 1, none⟩ v).setCell ⟨b, 2, none⟩ t).cell? ⟨b, 1, none⟩ = some v ∧
    (((w.setCell ⟨b, 0, none⟩ u).setCell ⟨b, 1, none⟩ v).setCell ⟨b, 2, none⟩ t).cell? ⟨b, 2, none⟩ = some t :=
  ⟨by simp [go_sem, h0], by simp [go_sem, h1], by simp [go_sem, h2]⟩
theorem drop_cons {l : List P3} {i : Nat} {p : P3} (h : l[i]? = some p) : l.drop i = p :: l.drop (i + 1) := by
  obtain ⟨hi, hp⟩ := List.getElem?_eq_some_iff.1 h
  rw [List.drop_eq_getElem_cons hi, hp]
/-- a box of three cells that may be stored into -/
def Bt (W : World) (b : Nat) (p : P3) : Prop :=
  (W.cell? ⟨b, 0, none⟩ = some (.int .i64 p.1) ∧ W.cell? ⟨b, 1, none⟩ = some (.int .i64 p.2.1) ∧ W.cell? ⟨b, 2, none⟩ = some (.int .i64 p.2.2)) ∧
  W.frozen? ⟨b, 0, none⟩ = false ∧ W.frozen? ⟨b, 1, none⟩ = false ∧ W.frozen? ⟨b, 2, none⟩ = false
theorem Bt.set {W : World} {b : Nat} {p : P3} (h : Bt W b p) (q : P3) : Bt (((W.setCell ⟨b, 0, none⟩ (.int .i64 q.1)).setCell ⟨b, 1, none⟩ (.int .i64 q.2.1)).setCell ⟨b, 2, none⟩ (.int .i64 q.2.2)) b q := by
  obtain ⟨⟨h0, h1, h2⟩, f0, f1, f2⟩ := h
  exact ⟨set3b h0 h1 h2, by simp [go_sem, f0], by simp [go_sem, f1], by simp [go_sem, f2]⟩
theorem kx_set (b n₀ j : Nat) (W : World) (v : Value) : Kx b n₀ W (W.setCell ⟨b, j, none⟩ v) :=
  ⟨rfl, rfl, rfl, (KeepsWalks.setCell W _ v).size, fun k _ hk => Below.heap_setCell _ _ _ k (fun e => hk (by rw [e]))⟩


theorem Bt.later {a b : World} {n : Nat} {p : P3} (h : Bt a n p) (g : G a b) : Bt b n p := by
  obtain ⟨⟨h0, h1, h2⟩, f0, f1, f2⟩ := h
  have l0 := cell_lt h0
  exact ⟨⟨g.at h0, g.at h1, g.at h2⟩, (g.frozen (p := ⟨n, 0, none⟩) l0).trans f0, (g.frozen (p := ⟨n, 1, none⟩) l0).trans f1, (g.frozen (p := ⟨n, 2, none⟩) l0).trans f2⟩
theorem Bt.other {W : World} {b n : Nat} {p : P3} (h : Bt W n p) (hn : b ≠ n) (j : Nat) (v : Value) : Bt (W.setCell ⟨b, j, none⟩ v) n p := by
  obtain ⟨⟨h0, h1, h2⟩, f0, f1, f2⟩ := h
  refine ⟨⟨?_, ?_, ?_⟩, ?_, ?_, ?_⟩
  · rw [World.cell?_setCell_far _ _ _ _ hn]; exact h0
  · rw [World.cell?_setCell_far _ _ _ _ hn]; exact h1
  · rw [World.cell?_setCell_far _ _ _ _ hn]; exact h2
  · simp [go_sem, f0]
  · simp [go_sem, f1]
  · simp [go_sem, f2]
def nrP (x b : P3) (q : Int) : Int := ner x.1 x.2.1 x.2.2 b.1 b.2.1 b.2.2 q
def mnF (q : Int) (best : P3) : List P3 → P3
  | [] => best
  | x :: r => mnF q (if nrP x best q < 0 then x else best) r

set_option maxRecDepth 20000 in
set_option maxHeartbeats 3200000 in
theorem MinFunc_any (l : List P3) (e : P3) (g cap : Nat) (p i : Int) (bf bi bd : Nat) (w : World) (he : l[0]? = some e) (hlen : l.length ≤ 5) (_ : l.length ≤ cap)
    (hc : ∀ (j : Nat) (x : P3), l[j]? = some x → w.cell? ⟨g, 3 * j, none⟩ = some (.int .i64 x.1) ∧ w.cell? ⟨g, 3 * j + 1, none⟩ = some (.int .i64 x.2.1) ∧ w.cell? ⟨g, 3 * j + 2, none⟩ = some (.int .i64 x.2.2))
    (hp : -7 ≤ p ∧ p ≤ 69) (hi : -77 ≤ i ∧ i ≤ 77) (hT : Hts w)
    (h0 : w.cell? ⟨bf, 0, none⟩ = some (.int .i64 p)) (h1 : w.cell? ⟨bi, 0, none⟩ = some (.int .i64 i)) (hd : w.cell? ⟨bd, 0, none⟩ = some (.func (.func 42) #[] #[.pointer (some ⟨bf, 0, none⟩), .pointer (some ⟨bi, 0, none⟩)])) :
    Calls Tryd.prog 48 #[.slice (some ⟨g, 0, none⟩) l.length cap, .func (.func 44) #[] #[.pointer (some ⟨bd, 0, none⟩)]] w fun e' w' => e' = .returned (.agg #[.int .i64 (mnF (p + i) e (l.drop 1)).1, .int .i64 (mnF (p + i) e (l.drop 1)).2.1, .int .i64 (mnF (p + i) e (l.drop 1)).2.2]) ∧ G w w' := by
  have HT := Lib.hid hT
  have HC := Lib.hid hc
  have HH := Lib.hid (And.intro (And.intro hp hi) (And.intro h0 (And.intro h1 hd)))
  have hln : 1 ≤ l.length := (List.getElem?_eq_some_iff.1 he).1
  obtain ⟨c0, c1, c2⟩ := hc 0 e he
  have HE := Lib.hid he
  obtain ⟨R, HR⟩ : ∃ R : P3, Hid (mnF (p + i) e (l.drop 1) = R) := ⟨_, rfl⟩
  rw [HR.out]
  dsimp only [Nat.mul_zero, Nat.zero_add] at c0 c1 c2
  clear hT hc hp hi h0 h1 hd he
  go_enter Tryd.func48, Tryd.ntmps48
  go_wp2_with fail
  obtain ⟨WL, hWL⟩ : ∃ WL : World, WL = (w.alloc (.cells #[.int .i64 0, .int .i64 0, .int .i64 0] 41)).alloc (.cells #[.int .i64 e.1, .int .i64 e.2.1, .int .i64 e.2.2] 41) := ⟨_, rfl⟩
  have gL : G w WL := by rw [hWL]; (repeat' (first | (with_reducible exact G.refl _) | (with_reducible assumption) | (with_reducible refine G.drewN ?_ _) | (with_reducible refine G.drew ?_) | (with_reducible refine G.alloc ?_ _) | (with_reducible refine G.setCell ?_ (by first | (with_reducible exact Nat.le_refl _) | (simp; done) | (simp; omega) | omega) _) | (with_reducible refine G.trans ?_ (by assumption))))
  have bt0 : Bt WL (w.heap.size + 1) e ∧ Bt WL w.heap.size (0, 0, 0) := by
    rw [hWL]
    obtain ⟨⟨a0, a1, a2⟩, ⟨b0, b1, b2⟩, b3, b4, b5⟩ := tri2_later (G.refl ((w.alloc (.cells #[.int .i64 0, .int .i64 0, .int .i64 0] 41)).alloc (.cells #[.int .i64 e.1, .int .i64 e.2.1, .int .i64 e.2.2] 41)))
    have hr : Bt (w.alloc (.cells #[.int .i64 0, .int .i64 0, .int .i64 0] 41)) w.heap.size (0, 0, 0) := by
      obtain ⟨⟨a0, a1, a2⟩, a3, a4, a5⟩ := trif_later (G.refl (w.alloc (.cells #[.int .i64 0, .int .i64 0, .int .i64 0] 41)))
      exact ⟨⟨a0, a1, a2⟩, a3, a4, a5⟩
    exact ⟨⟨⟨b0, b1, b2⟩, b3, b4, b5⟩, hr.later (G.alloc (G.refl _) _)⟩
  rw [← hWL]
  clear hWL c0 c1 c2
  go_loopg [6] (l.length - 1) (fun k x wr => ∃ (j : Nat) (out : P3), x = .int .i64 j ∧ k = l.length - j ∧ 1 ≤ j ∧ j ≤ l.length ∧ Hid (mnF (p + i) out (l.drop j) = R) ∧ Bt wr (w.heap.size + 1) out ∧ Bt wr w.heap.size (0, 0, 0) ∧ G w wr)
  case atStart => exact ⟨1, e, rfl, rfl, by omega, hln, HR, bt0.1, bt0.2, gL⟩
  case round =>
    clear bt0 gL
    obtain ⟨j, out, rfl, hgk, j0, j1, hR, hB, hO, gwr⟩ := hrel
    have HGK := Lib.hid hgk
    clear hgk
    obtain ⟨⟨r0, r1, r2⟩, s0, s1, s2⟩ := id hO
    obtain ⟨o1, o2, o3⟩ := out
    obtain ⟨⟨q0, q1, q2⟩, f0, f1, f2⟩ := id hB
    dsimp only at q0 q1 q2 r0 r1 r2
    by_cases hin : j < l.length
    · obtain ⟨x, hx⟩ : ∃ x, l[j]? = some x := ⟨l[j], List.getElem?_eq_getElem hin⟩
      obtain ⟨c0, c1, c2⟩ := HC.out j x hx
      have d0 := gwr.at c0
      have d1 := gwr.at c1
      have d2 := gwr.at c2
      rw [Nat.mul_comm] at d0 d1 d2
      have hd := hR.out
      rw [drop_cons hx] at hd
      clear hx c0 c1 c2
      obtain ⟨p1, p2, p3⟩ := x
      dsimp only at d0 d1 d2
      obtain ⟨t, ht⟩ : ∃ z : Int, Hid (z = ner p1 p2 p3 o1 o2 o3 (p + i)) := ⟨_, rfl⟩
      have hd2 : mnF (p + i) (if t < 0 then (p1, p2, p3) else (o1, o2, o3)) (l.drop (j + 1)) = R := by rw [ht.out]; exact hd
      clear hd hR
      by_cases hz : t < 0
      · rw [if_pos hz] at hd2
        have HD := Lib.hid hd2
        clear hd2
        go_wp2_with fail
        go_region_held3 (fun w' => w'.cell? ⟨g, j * 3, none⟩ = some (.int .i64 p1) ∧ w'.cell? ⟨g, j * 3 + 1, none⟩ = some (.int .i64 p2) ∧ w'.cell? ⟨g, j * 3 + 2, none⟩ = some (.int .i64 p3) ∧ w'.cell? ⟨w.heap.size + 1, 0, none⟩ = some (.int .i64 o1) ∧ w'.cell? ⟨w.heap.size + 1, 1, none⟩ = some (.int .i64 o2) ∧ w'.cell? ⟨w.heap.size + 1, 2, none⟩ = some (.int .i64 o3))
          (first | (with_reducible assumption) | ((try dsimp only); (repeat' (with_reducible apply And.intro)) <;> go_simp))
          (first | (go_at_call 44; refine (nearer_any _ _ _ _ _ _ p i bf bi bd _ HH.out.1.1 HH.out.1.2 (HT.out.later (gwr.trans (by (repeat' (first | (with_reducible exact G.refl _) | (with_reducible assumption) | (with_reducible refine G.drewN ?_ _) | (with_reducible refine G.drew ?_) | (with_reducible refine G.alloc ?_ _) | (with_reducible refine G.setCell ?_ (by first | (with_reducible exact Nat.le_refl _) | (simp; done) | (simp; omega) | omega) _) | (with_reducible refine G.trans ?_ (by assumption))))))) (G.at (gwr.trans (by (repeat' (first | (with_reducible exact G.refl _) | (with_reducible assumption) | (with_reducible refine G.drewN ?_ _) | (with_reducible refine G.drew ?_) | (with_reducible refine G.alloc ?_ _) | (with_reducible refine G.setCell ?_ (by first | (with_reducible exact Nat.le_refl _) | (simp; done) | (simp; omega) | omega) _) | (with_reducible refine G.trans ?_ (by assumption)))))) HH.out.2.1) (G.at (gwr.trans (by (repeat' (first | (with_reducible exact G.refl _) | (with_reducible assumption) | (with_reducible refine G.drewN ?_ _) | (with_reducible refine G.drew ?_) | (with_reducible refine G.alloc ?_ _) | (with_reducible refine G.setCell ?_ (by first | (with_reducible exact Nat.le_refl _) | (simp; done) | (simp; omega) | omega) _) | (with_reducible refine G.trans ?_ (by assumption)))))) HH.out.2.2.1) (G.at (gwr.trans (by (repeat' (first | (with_reducible exact G.refl _) | (with_reducible assumption) | (with_reducible refine G.drewN ?_ _) | (with_reducible refine G.drew ?_) | (with_reducible refine G.alloc ?_ _) | (with_reducible refine G.setCell ?_ (by first | (with_reducible exact Nat.le_refl _) | (simp; done) | (simp; omega) | omega) _) | (with_reducible refine G.trans ?_ (by assumption)))))) HH.out.2.2.2)).mono ?_; rintro e9 w9 ⟨rfl, hG9⟩; rw [← ht.out]; have gx : G wr w9 := G.trans (by (repeat' (first | (with_reducible exact G.refl _) | (with_reducible refine G.drewN ?_ _) | (with_reducible refine G.drew ?_) | (with_reducible refine G.alloc ?_ _)))) hG9; have d0' := gx.at d0; have d1' := gx.at d1; have d2' := gx.at d2; have q0' := gx.at q0; have q1' := gx.at q1; have q2' := gx.at q2))
        all_goals
          have hB9 := Bt.later hB gx
          have hO9 := Bt.later hO gx
          have g9 := gwr.trans gx
          obtain ⟨⟨q0, q1, q2⟩, f0, f1, f2⟩ := id hB9
          dsimp only at q0 q1 q2
          go_wp2_with fail
          go_roundg (l.length - (j + 1))
          case measure => have := HGK.out; omega
          case rel => exact ⟨j + 1, (p1, p2, p3), by go_num, rfl, by omega, by omega, HD, hB9.set (p1, p2, p3), ((hO9.other (by omega) _ _).other (by omega) _ _).other (by omega) _ _, by (repeat' (first | (with_reducible exact G.refl _) | (with_reducible assumption) | (with_reducible refine G.drewN ?_ _) | (with_reducible refine G.drew ?_) | (with_reducible refine G.alloc ?_ _) | (with_reducible refine G.setCell ?_ (by first | (with_reducible exact Nat.le_refl _) | (simp; done) | (simp; omega) | omega) _) | (with_reducible refine G.trans ?_ (by assumption))))⟩
      · rw [if_neg hz] at hd2
        have HD := Lib.hid hd2
        clear hd2
        go_wp2_with fail
        go_region_held3 (fun w' => w'.cell? ⟨g, j * 3, none⟩ = some (.int .i64 p1) ∧ w'.cell? ⟨g, j * 3 + 1, none⟩ = some (.int .i64 p2) ∧ w'.cell? ⟨g, j * 3 + 2, none⟩ = some (.int .i64 p3) ∧ w'.cell? ⟨w.heap.size + 1, 0, none⟩ = some (.int .i64 o1) ∧ w'.cell? ⟨w.heap.size + 1, 1, none⟩ = some (.int .i64 o2) ∧ w'.cell? ⟨w.heap.size + 1, 2, none⟩ = some (.int .i64 o3))
          (first | (with_reducible assumption) | ((try dsimp only); (repeat' (with_reducible apply And.intro)) <;> go_simp))
          (first | (go_at_call 44; refine (nearer_any _ _ _ _ _ _ p i bf bi bd _ HH.out.1.1 HH.out.1.2 (HT.out.later (gwr.trans (by (repeat' (first | (with_reducible exact G.refl _) | (with_reducible assumption) | (with_reducible refine G.drewN ?_ _) | (with_reducible refine G.drew ?_) | (with_reducible refine G.alloc ?_ _) | (with_reducible refine G.setCell ?_ (by first | (with_reducible exact Nat.le_refl _) | (simp; done) | (simp; omega) | omega) _) | (with_reducible refine G.trans ?_ (by assumption))))))) (G.at (gwr.trans (by (repeat' (first | (with_reducible exact G.refl _) | (with_reducible assumption) | (with_reducible refine G.drewN ?_ _) | (with_reducible refine G.drew ?_) | (with_reducible refine G.alloc ?_ _) | (with_reducible refine G.setCell ?_ (by first | (with_reducible exact Nat.le_refl _) | (simp; done) | (simp; omega) | omega) _) | (with_reducible refine G.trans ?_ (by assumption)))))) HH.out.2.1) (G.at (gwr.trans (by (repeat' (first | (with_reducible exact G.refl _) | (with_reducible assumption) | (with_reducible refine G.drewN ?_ _) | (with_reducible refine G.drew ?_) | (with_reducible refine G.alloc ?_ _) | (with_reducible refine G.setCell ?_ (by first | (with_reducible exact Nat.le_refl _) | (simp; done) | (simp; omega) | omega) _) | (with_reducible refine G.trans ?_ (by assumption)))))) HH.out.2.2.1) (G.at (gwr.trans (by (repeat' (first | (with_reducible exact G.refl _) | (with_reducible assumption) | (with_reducible refine G.drewN ?_ _) | (with_reducible refine G.drew ?_) | (with_reducible refine G.alloc ?_ _) | (with_reducible refine G.setCell ?_ (by first | (with_reducible exact Nat.le_refl _) | (simp; done) | (simp; omega) | omega) _) | (with_reducible refine G.trans ?_ (by assumption)))))) HH.out.2.2.2)).mono ?_; rintro e9 w9 ⟨rfl, hG9⟩; rw [← ht.out]; have gx : G wr w9 := G.trans (by (repeat' (first | (with_reducible exact G.refl _) | (with_reducible refine G.drewN ?_ _) | (with_reducible refine G.drew ?_) | (with_reducible refine G.alloc ?_ _)))) hG9; have d0' := gx.at d0; have d1' := gx.at d1; have d2' := gx.at d2; have q0' := gx.at q0; have q1' := gx.at q1; have q2' := gx.at q2))
        all_goals
          have hB9 := Bt.later hB gx
          have hO9 := Bt.later hO gx
          have g9 := gwr.trans gx
          go_wp2_with fail
          go_roundg (l.length - (j + 1))
          case measure => have := HGK.out; omega
          case rel => exact ⟨j + 1, (o1, o2, o3), by go_num, rfl, by omega, by omega, HD, hB9, hO9, by (repeat' (first | (with_reducible exact G.refl _) | (with_reducible assumption) | (with_reducible refine G.drewN ?_ _) | (with_reducible refine G.drew ?_) | (with_reducible refine G.alloc ?_ _) | (with_reducible refine G.setCell ?_ (by first | (with_reducible exact Nat.le_refl _) | (simp; done) | (simp; omega) | omega) _) | (with_reducible refine G.trans ?_ (by assumption))))⟩
    · obtain rfl : j = l.length := by omega
      have hd := hR.out
      rw [List.drop_length] at hd
      have HRP := Lib.hid (show R = (o1, o2, o3) from hd.symm)
      clear hd hR
      go_wp2_with fail
      refine bodyPost_ret (v := .agg #[.int .i64 o1, .int .i64 o2, .int .i64 o3]) (by simp [results, Tryd.results48, go_sem, r0, r1, r2]) rfl ⟨by rw [HRP.out], ?_⟩
      (repeat' (first | (with_reducible exact G.refl _) | (with_reducible assumption) | (with_reducible refine G.drewN ?_ _) | (with_reducible refine G.drew ?_) | (with_reducible refine G.alloc ?_ _) | (with_reducible refine G.setCell ?_ (by first | (with_reducible exact Nat.le_refl _) | (simp; done) | (simp; omega) | omega) _) | (with_reducible refine G.trans ?_ (by assumption))))
end Go.Proofs.YtkooggakngheoaaDoor
