import Derived.Test.YtabaiklagobimaaT16
import Derived.Test.YtabaiklagobimaaT14
/-! Tuplets: the program's Delete. -/
namespace Go.Proofs.Ytabaiklagobimaa
open Go.RowKit
attribute [local go_sem] World.cell?_alloc_some

theorem box2_at {w w1 : World} {a b : Value} {t t' : TypeId} (h : G ((w.alloc (.cells #[a] t)).alloc (.cells #[b] t')) w1) :
    w1.cell? ⟨w.heap.size, 0, none⟩ = some a ∧ w1.cell? ⟨w.heap.size + 1, 0, none⟩ = some b := by
  refine ⟨?_, ?_⟩
  · rw [h.cell (by simp; omega)]; go_cell
  · rw [h.cell (by simp)]; go_cell
theorem mv_in128 {p q e : Int} (hp : 0 ≤ p) (he : 0 ≤ e ∧ e ≤ 128) : 0 ≤ mv p q e ∧ mv p q e ≤ 128 := by have := mv_bd (cnt := q) hp he.1; omega
set_option maxHeartbeats 1600000 in
theorem moved_any (p q e : Int) (b1 b2 : Nat) (w : World) (hq : 0 ≤ q ∧ q ≤ 128) (he : 0 ≤ e ∧ e ≤ 128)
    (h1 : w.cell? ⟨b1, 0, none⟩ = some (.int .i64 p)) (h2 : w.cell? ⟨b2, 0, none⟩ = some (.int .i64 q)) :
    Calls Try.prog 51 #[.int .i64 e, .pointer (some ⟨b1, 0, none⟩), .pointer (some ⟨b2, 0, none⟩)] w fun x w' => x = .returned (.int .i64 (mv p q e)) ∧ G w w' := by
  have q1 := IntWalk.i64_in (e - q) (by omega)
  have HMV := Lib.hid (show mv p q e = min e (max p (e - q)) from rfl)
  by_cases k1 : p < e - q
  · by_cases k2 : e < e - q
    · go_enter Try.func51, Try.ntmps51
      go_wp2_with fail
      all_goals
        go_ret
        exact ⟨ret_int (by rw [HMV.out]; omega), by (repeat' (first | (with_reducible exact G.refl _) | (with_reducible assumption) | (with_reducible refine G.drewN ?_ _) | (with_reducible refine G.drew ?_) | (with_reducible refine G.alloc ?_ _) | (with_reducible refine G.setCell ?_ (by first | (with_reducible exact Nat.le_refl _) | (simp; done) | (simp; omega) | omega) _) | (with_reducible refine G.trans ?_ (by assumption))))⟩
    · go_enter Try.func51, Try.ntmps51
      go_wp2_with fail
      all_goals
        go_ret
        exact ⟨ret_int (by rw [HMV.out]; omega), by (repeat' (first | (with_reducible exact G.refl _) | (with_reducible assumption) | (with_reducible refine G.drewN ?_ _) | (with_reducible refine G.drew ?_) | (with_reducible refine G.alloc ?_ _) | (with_reducible refine G.setCell ?_ (by first | (with_reducible exact Nat.le_refl _) | (simp; done) | (simp; omega) | omega) _) | (with_reducible refine G.trans ?_ (by assumption))))⟩
  · by_cases k2 : e < p
    · go_enter Try.func51, Try.ntmps51
      go_wp2_with fail
      all_goals
        go_ret
        exact ⟨ret_int (by rw [HMV.out]; omega), by (repeat' (first | (with_reducible exact G.refl _) | (with_reducible assumption) | (with_reducible refine G.drewN ?_ _) | (with_reducible refine G.drew ?_) | (with_reducible refine G.alloc ?_ _) | (with_reducible refine G.setCell ?_ (by first | (with_reducible exact Nat.le_refl _) | (simp; done) | (simp; omega) | omega) _) | (with_reducible refine G.trans ?_ (by assumption))))⟩
    · go_enter Try.func51, Try.ntmps51
      go_wp2_with fail
      all_goals
        go_ret
        exact ⟨ret_int (by rw [HMV.out]; omega), by (repeat' (first | (with_reducible exact G.refl _) | (with_reducible assumption) | (with_reducible refine G.drewN ?_ _) | (with_reducible refine G.drew ?_) | (with_reducible refine G.alloc ?_ _) | (with_reducible refine G.setCell ?_ (by first | (with_reducible exact Nat.le_refl _) | (simp; done) | (simp; omega) | omega) _) | (with_reducible refine G.trans ?_ (by assumption))))⟩
def delE (l : List Tu) (ev p q : Int) : Int := if ckT ev l = 0 then (if 0 ≤ p ∧ 0 ≤ q ∧ q ≤ ev - p then 0 else 2) else ckT ev l
def DelR (w' : World) (l : List Tu) (ev p q : Int) (v : Value) : Prop :=
  if delE l ev p q = 0 then ∃ a cap, v = .slice a (sortT (delL p q l)).length cap ∧ TusAt w' a (sortT (delL p q l)) else v = .slice none 0 0
theorem DelR.nil {w : World} {l : List Tu} {ev p q : Int} (h : delE l ev p q ≠ 0) : DelR w l ev p q (.slice none 0 0) := by
  unfold DelR; rw [if_neg h]
theorem delL_next {p q : Int} {l : List Tu} {i : Nat} {t : Tu} (h : l[i]? = some t) : delL p q (l.take (i + 1)) = delL p q (l.take i) ++ (if 0 < (delT p q t).c then [delT p q t] else []) := by
  unfold delL
  rw [map_next h, List.filter_append]
  congr 1
  by_cases c : 0 < (delT p q t).c
  · rw [if_pos c]; simp [c]
  · rw [if_neg c]; simp [c]
theorem delL_len (p q : Int) (l : List Tu) : (delL p q l).length ≤ l.length := by
  unfold delL
  exact Nat.le_trans (List.length_filter_le _ _) (by rw [List.length_map]; exact Nat.le_refl _)
theorem Row.tusz {e : TypeId} {base : Nat} {w : World} {v : Value} {l : List Tu} (h : Row tuE e 4 base w v l) : ∃ a c, v = .slice a l.length c ∧ TusAt w a l ∧ (a = none → c = 0) := by
  rcases h.cells tuE_len with ⟨rfl, rfl⟩ | ⟨g, cap, rfl, _, _, _, hc⟩
  · exact ⟨none, 0, rfl, .inl rfl, fun _ => rfl⟩
  · refine ⟨_, _, rfl, .inr ⟨g, 0, rfl, fun i n hn => ?_⟩, fun h => by cases h⟩
    rw [Nat.zero_add]
    exact ⟨(hc i n hn 0 _ rfl).1, (hc i n hn 1 _ rfl).1, (hc i n hn 2 _ rfl).1, (hc i n hn 3 _ rfl).1⟩

set_option maxRecDepth 100000 in
set_option maxHeartbeats 12800000 in
theorem tDelete_any (a : Option Addr) (l : List Tu) (n c : Nat) (ev p q : Int) (w : World) (hn : l.length = n) (hl : n ≤ 20) (h1 : TusAt w a l) (hc : CB l) (hpb : p ≤ 9223372036854775807) :
    Calls Try.prog 36 #[.slice a n c, .int .i64 ev, .int .i64 p, .int .i64 q] w fun e w' => ∃ v, e = .returned (.tuple #[v, .int .i64 (delE l ev p q)]) ∧ DelR w' l ev p q v ∧ G w w' := by
  have H1 := Lib.hid h1
  have HC := Lib.hid hc
  obtain ⟨E, hE⟩ : ∃ z : Int, Hid (delE l ev p q = z) := ⟨_, rfl⟩
  rw [hE.out]
  clear h1 hc
  by_cases hk : ckT ev l = 0
  rotate_left
  · have HE := Lib.hid (show ckT ev l = E by rw [← hE.out]; exact (if_neg hk).symm)
    have HN := Lib.hid (show delE l ev p q ≠ 0 by rw [hE.out, ← HE.out]; exact hk)
    rw [HE.out] at hk
    have e3 : (E == 0) = false := beq_false_of_ne hk
    have e4 : (E != 0) = true := by simp [bne, e3]
    clear hk hpb
    go_enter Try.func36, Try.ntmps36
    go_wp2_with fail
    refine (tCheck_any a l n c _ _ hn (H1.out.later (by (repeat' (first | (with_reducible exact G.refl _) | (with_reducible assumption) | (with_reducible refine G.drewN ?_ _) | (with_reducible refine G.drew ?_) | (with_reducible refine G.alloc ?_ _) | (with_reducible refine G.setCell ?_ (by first | (with_reducible exact Nat.le_refl _) | (simp; done) | (simp; omega) | omega) _) | (with_reducible refine G.trans ?_ (by assumption)))))) HC.out).mono ?_
    rintro e w1 ⟨rfl, hG⟩
    rw [HE.out]
    go_wp2_with fail
    go_returns
    exact ⟨_, rfl, DelR.nil HN.out, by (repeat' (first | (with_reducible exact G.refl _) | (with_reducible assumption) | (with_reducible refine G.drewN ?_ _) | (with_reducible refine G.drew ?_) | (with_reducible refine G.alloc ?_ _) | (with_reducible refine G.setCell ?_ (by first | (with_reducible exact Nat.le_refl _) | (simp; done) | (simp; omega) | omega) _) | (with_reducible refine G.trans ?_ (by assumption))))⟩
  have HK := Lib.hid hk
  have HKO := Lib.hid (ckT_ok hk)
  have hev := (ckT_ok hk).1
  have HEE := Lib.hid (show E = if 0 ≤ p ∧ 0 ≤ q ∧ q ≤ ev - p then 0 else 2 from hE.out.symm.trans (if_pos hk))
  have HOUT := Lib.hid (show ¬ (0 ≤ p ∧ 0 ≤ q ∧ q ≤ ev - p) → E = 2 ∧ delE l ev p q ≠ 0 from fun h => ⟨HEE.out.trans (if_neg h), by rw [hE.out, HEE.out, if_neg h]; decide⟩)
  clear hk
  by_cases k1 : p < 0
  · have HO := Lib.hid (HOUT.out (by omega))
    clear hev hpb
    go_enter Try.func36, Try.ntmps36
    go_wp2_with fail
    refine (tCheck_any a l n c _ _ hn (H1.out.later (by (repeat' (first | (with_reducible exact G.refl _) | (with_reducible assumption) | (with_reducible refine G.drewN ?_ _) | (with_reducible refine G.drew ?_) | (with_reducible refine G.alloc ?_ _) | (with_reducible refine G.setCell ?_ (by first | (with_reducible exact Nat.le_refl _) | (simp; done) | (simp; omega) | omega) _) | (with_reducible refine G.trans ?_ (by assumption)))))) HC.out).mono ?_
    rintro e w1 ⟨rfl, hG⟩
    rw [HK.out]
    obtain ⟨z1, z2⟩ := box2_at hG
    go_wp2_with fail
    go_returns
    exact ⟨_, by rw [HO.out.1]; rfl, DelR.nil HO.out.2, by (repeat' (first | (with_reducible exact G.refl _) | (with_reducible assumption) | (with_reducible refine G.drewN ?_ _) | (with_reducible refine G.drew ?_) | (with_reducible refine G.alloc ?_ _) | (with_reducible refine G.setCell ?_ (by first | (with_reducible exact Nat.le_refl _) | (simp; done) | (simp; omega) | omega) _) | (with_reducible refine G.trans ?_ (by assumption))))⟩
  by_cases k2 : q < 0
  · have HO := Lib.hid (HOUT.out (by omega))
    clear hev hpb
    go_enter Try.func36, Try.ntmps36
    go_wp2_with fail
    refine (tCheck_any a l n c _ _ hn (H1.out.later (by (repeat' (first | (with_reducible exact G.refl _) | (with_reducible assumption) | (with_reducible refine G.drewN ?_ _) | (with_reducible refine G.drew ?_) | (with_reducible refine G.alloc ?_ _) | (with_reducible refine G.setCell ?_ (by first | (with_reducible exact Nat.le_refl _) | (simp; done) | (simp; omega) | omega) _) | (with_reducible refine G.trans ?_ (by assumption)))))) HC.out).mono ?_
    rintro e w1 ⟨rfl, hG⟩
    rw [HK.out]
    obtain ⟨z1, z2⟩ := box2_at hG
    go_wp2_with fail
    go_returns
    exact ⟨_, by rw [HO.out.1]; rfl, DelR.nil HO.out.2, by (repeat' (first | (with_reducible exact G.refl _) | (with_reducible assumption) | (with_reducible refine G.drewN ?_ _) | (with_reducible refine G.drew ?_) | (with_reducible refine G.alloc ?_ _) | (with_reducible refine G.setCell ?_ (by first | (with_reducible exact Nat.le_refl _) | (simp; done) | (simp; omega) | omega) _) | (with_reducible refine G.trans ?_ (by assumption))))⟩
  have q0 := IntWalk.i64_in (ev - p) (by omega)
  by_cases k3 : ev - p < q
  · have HO := Lib.hid (HOUT.out (by omega))
    clear hev hpb
    go_enter Try.func36, Try.ntmps36
    go_wp2_with fail
    refine (tCheck_any a l n c _ _ hn (H1.out.later (by (repeat' (first | (with_reducible exact G.refl _) | (with_reducible assumption) | (with_reducible refine G.drewN ?_ _) | (with_reducible refine G.drew ?_) | (with_reducible refine G.alloc ?_ _) | (with_reducible refine G.setCell ?_ (by first | (with_reducible exact Nat.le_refl _) | (simp; done) | (simp; omega) | omega) _) | (with_reducible refine G.trans ?_ (by assumption)))))) HC.out).mono ?_
    rintro e w1 ⟨rfl, hG⟩
    rw [HK.out]
    obtain ⟨z1, z2⟩ := box2_at hG
    go_wp2_with fail
    go_returns
    exact ⟨_, by rw [HO.out.1]; rfl, DelR.nil HO.out.2, by (repeat' (first | (with_reducible exact G.refl _) | (with_reducible assumption) | (with_reducible refine G.drewN ?_ _) | (with_reducible refine G.drew ?_) | (with_reducible refine G.alloc ?_ _) | (with_reducible refine G.setCell ?_ (by first | (with_reducible exact Nat.le_refl _) | (simp; done) | (simp; omega) | omega) _) | (with_reducible refine G.trans ?_ (by assumption))))⟩
  have HIN := Lib.hid (show 0 ≤ p ∧ 0 ≤ q ∧ q ≤ ev - p ∧ ev ≤ 128 by omega)
  have HE0 := Lib.hid (show E = 0 by rw [HEE.out]; exact if_pos (by omega))
  have HL := Lib.hid (And.intro hn hl)
  clear hev hpb hl hn
  obtain ⟨i0, hi0, hz0, hz1, hz2⟩ := info_parts' tInfo
  go_enter Try.func36, Try.ntmps36
  go_wp2_with fail
  refine (tCheck_any a l n c _ _ HL.out.1 (H1.out.later (by (repeat' (first | (with_reducible exact G.refl _) | (with_reducible assumption) | (with_reducible refine G.drewN ?_ _) | (with_reducible refine G.drew ?_) | (with_reducible refine G.alloc ?_ _) | (with_reducible refine G.setCell ?_ (by first | (with_reducible exact Nat.le_refl _) | (simp; done) | (simp; omega) | omega) _) | (with_reducible refine G.trans ?_ (by assumption)))))) HC.out).mono ?_
  rintro e w1 ⟨rfl, hG⟩
  rw [HK.out]
  have g1 : G w w1 := G.trans (by (repeat' (first | (with_reducible exact G.refl _) | (with_reducible refine G.drewN ?_ _) | (with_reducible refine G.drew ?_) | (with_reducible refine G.alloc ?_ _)))) hG
  obtain ⟨z1, z2⟩ := box2_at hG
  have HZ := Lib.hid (And.intro z1 z2)
  obtain ⟨B6, hB6⟩ : ∃ z : Nat, Hid (w.heap.size = z) := ⟨_, rfl⟩
  rw [hB6.out] at z1 z2 HZ ⊢
  go_wp2_with fail
  go_loopg [12, 38] n (fun k y x wr => ∃ (i : Nat) (v : Value), v = y ∧ x = .int .i64 i ∧ k = n - i ∧ i ≤ n ∧ Hid (Row tuE 52 4 w1.heap.size wr v (delL p q (l.take i))) ∧ G w1 wr)
  case atStart => exact ⟨0, _, rfl, rfl, by omega, by omega, Lib.hid (by simpa [delL] using Row.nil (enc := tuE) w1), by (repeat' (first | (with_reducible exact G.refl _) | (with_reducible assumption) | (with_reducible refine G.drewN ?_ _) | (with_reducible refine G.drew ?_) | (with_reducible refine G.alloc ?_ _) | (with_reducible refine G.setCell ?_ (by first | (with_reducible exact Nat.le_refl _) | (simp; done) | (simp; omega) | omega) _) | (with_reducible refine G.trans ?_ (by assumption))))⟩
  case round =>
    obtain ⟨i, v, rfl, rfl, hk, hi, hR, gr⟩ := hrel
    have HQ := Lib.hid hk
    clear hk z1 z2
    have z1 := gr.at HZ.out.1
    have z2 := gr.at HZ.out.2
    have gwr := g1.trans gr
    by_cases hin : i < n
    · obtain ⟨⟨f, cc, aa, nn⟩, hp⟩ : ∃ z, l[i]? = some z := ⟨l[i]'(by have := HL.out; omega), List.getElem?_eq_getElem (by have := HL.out; omega)⟩
      rcases H1.out with hz | ⟨b0, of, rfl, fc⟩
      · rw [hz] at hp; simp at hp
      obtain ⟨x0, x1, x2, x3⟩ := (fc i _ hp).later gwr
      dsimp only at x0 x1 x2 x3
      have hone := HKO.out.2.2.2.1 _ (List.mem_of_getElem? hp)
      have HII := Lib.hid (show 0 ≤ f ∧ 1 ≤ cc ∧ f + cc ≤ 128 by have := HKO.out.1; unfold InR at hone; dsimp only at hone; omega)
      have HNX := Lib.hid (delL_next (p := p) (q := q) hp)
      obtain ⟨F1, hF1⟩ : ∃ z : Int, Hid (mv p q f = z) := ⟨_, rfl⟩
      obtain ⟨E1, hE1⟩ : ∃ z : Int, Hid (mv p q (f + cc) = z) := ⟨_, rfl⟩
      have HD := Lib.hid (show delT p q ⟨f, cc, aa, nn⟩ = ⟨F1, E1 - F1, aa, nn⟩ by unfold delT; rw [← hF1.out, ← hE1.out]; rfl)
      have HFB := Lib.hid (show (0 ≤ F1 ∧ F1 ≤ 128) ∧ (0 ≤ E1 ∧ E1 ≤ 128) by
        rw [← hF1.out, ← hE1.out]
        have := HII.out
        exact ⟨mv_in128 HIN.out.1 (by omega), mv_in128 HIN.out.1 (by omega)⟩)
      have HLT := Lib.hid (show (delL p q (l.take i)).length ≤ 20 from Nat.le_trans (delL_len _ _ _) (by rw [List.length_take]; have := HL.out; omega))
      have b1 : (0 : Int) ≤ (i : Int) := by omega
      have b2 : (i : Int) < (n : Int) := by omega
      have q1 := IntWalk.i64_in ((i : Int) + 1) (by have := HL.out; omega)
      have q2 := IntWalk.i64_in (E1 - F1) (by have := HFB.out; omega)
      clear fc hp hone
      obtain ⟨BT, hBT⟩ : ∃ z : Nat, Hid (wr.heap.size = z) := ⟨_, rfl⟩
      obtain ⟨WT, hWT⟩ : ∃ z : World, Hid (wr.alloc (.cells #[.int .i64 f, .int .i64 cc, .int .i64 aa, .int .i64 nn] 52) = z) := ⟨_, rfl⟩
      have gT : G wr WT := by rw [← hWT.out]; (repeat' (first | (with_reducible exact G.refl _) | (with_reducible refine G.drewN ?_ _) | (with_reducible refine G.drew ?_) | (with_reducible refine G.alloc ?_ _)))
      have HTW := Lib.hid (show TW WT BT [⟨f, cc, aa, nn⟩] by
        rw [← hWT.out, ← hBT.out]
        intro k t hk j u hu
        have hk0 : k = 0 := by have := (List.getElem?_eq_some_iff.1 hk).1; simp at this; omega
        subst hk0
        obtain rfl := Option.some.inj hk
        rw [Nat.zero_mul, Nat.zero_add]
        refine ⟨?_, by simp [go_sem]⟩
        rw [World.cell?_alloc_new]
        rw [← hu]; simp [tuE])
      have t0 := (HTW.out 0 _ rfl 0 _ rfl).1
      have t1 := (HTW.out 0 _ rfl 1 _ rfl).1
      have t2 := (HTW.out 0 _ rfl 2 _ rfl).1
      have t3 := (HTW.out 0 _ rfl 3 _ rfl).1
      simp only [Nat.zero_mul, Nat.zero_add] at t0 t1 t2 t3
      have Z1 := gT.at z1
      have Z2 := gT.at z2
      have HSB := Lib.hid (show w1.heap.size ≤ BT by rw [← hBT.out]; exact gr.size)
      go_wp2_with fail
      rw [hWT.out, hBT.out]
      refine (moved_any p q f B6 (B6 + 1) _ (by have := HIN.out; omega) (by have := HII.out; omega) Z1 Z2).mono ?_
      rintro x w2 ⟨rfl, hG2⟩
      rw [hF1.out]
      have g2 : G WT w2 := G.trans (by (repeat' (first | (with_reducible exact G.refl _) | (with_reducible refine G.drewN ?_ _) | (with_reducible refine G.drew ?_) | (with_reducible refine G.alloc ?_ _)))) hG2
      replace t0 := g2.at t0
      replace t1 := g2.at t1
      replace t2 := g2.at t2
      replace t3 := g2.at t3
      go_wp2_with fail
      refine (end_any f cc aa nn _ (by have := HII.out; omega) (by have := HII.out; omega)).mono ?_
      rintro x w3 ⟨rfl, hG3⟩
      have g3 : G WT w3 := g2.trans (G.trans (by (repeat' (first | (with_reducible exact G.refl _) | (with_reducible refine G.drewN ?_ _) | (with_reducible refine G.drew ?_) | (with_reducible refine G.alloc ?_ _)))) hG3)
      have Z1' := g3.at Z1
      have Z2' := g3.at Z2
      clear t0 t1 t2 t3
      go_wp2_with fail
      refine (moved_any p q (f + cc) B6 (B6 + 1) _ (by have := HIN.out; omega) (by have := HII.out; omega) Z1' Z2').mono ?_
      rintro x w4 ⟨rfl, hG4⟩
      rw [hE1.out]
      have g4 : G WT w4 := g3.trans (G.trans (by (repeat' (first | (with_reducible exact G.refl _) | (with_reducible refine G.drewN ?_ _) | (with_reducible refine G.drew ?_) | (with_reducible refine G.alloc ?_ _)))) hG4)
      have T4 := Lib.hid (HTW.out.later g4)
      obtain ⟨t0, u0⟩ := T4.out 0 _ rfl 0 _ rfl
      obtain ⟨t1, u1⟩ := T4.out 0 _ rfl 1 _ rfl
      have t2 := (T4.out 0 _ rfl 2 _ rfl).1
      have t3 := (T4.out 0 _ rfl 3 _ rfl).1
      simp only [Nat.zero_mul, Nat.zero_add] at t0 t1 t2 t3 u0 u1
      have g14 : G w1 w4 := gr.trans (gT.trans g4)
      have HS4 := Lib.hid (show wr.heap.size ≤ w4.heap.size from (gT.trans g4).size)
      have HBW := Lib.hid (show wr.heap.size ≤ BT by rw [hBT.out]; exact Nat.le_refl _)
      have gwr4 : G wr w4 := gT.trans g4
      clear Z1 Z2 Z1' Z2' x0 x1 x2 x3 z1 z2
      by_cases hpos : 0 < E1 - F1
      · have HX := Lib.hid (show delL p q (l.take (i + 1)) = delL p q (l.take i) ++ [⟨F1, E1 - F1, aa, nn⟩] by rw [HNX.out, HD.out, if_pos hpos])
        go_wp2_with (at_builtin; refine wpList_append_own _ rfl _ _ 22 rfl w1.heap.size 52 i0 (.agg #[.int .i64 0, .int .i64 0, .int .i64 0, .int .i64 0]) 4 32 Try.underlying22 hi0 hz0 hz1 hz2 rfl (by decide) v (delL p q (l.take i)).length ((delL p q (l.take i)).flatMap tuE) rfl (hR.out.later (show G wr _ from by repeat' (first | (with_reducible exact gwr4) | (with_reducible refine G.drew ?_) | (with_reducible refine G.drewN ?_ _) | (with_reducible refine G.alloc ?_ _) | (with_reducible refine G.setCell ?_ (by exact HBW.out) _)))) ⟨w4.heap.size, 0, none⟩ 1 1 [.int .i64 F1, .int .i64 (E1 - F1), .int .i64 aa, .int .i64 nn] rfl rfl (new_add _ _ [.int .i64 F1, .int .i64 (E1 - F1), .int .i64 aa, .int .i64 nn] _ (by simp [go_sem])) (by simp [Value.oneCell']) (by unfold maxLen; have := HLT.out; omega) (by have := HLT.out; omega) (by have := HS4.out; have := gr.size; simp [go_sem]; omega) ?_; intro v' w6 hown' hgrow _)
        have RN := Lib.hid (Row.more (enc := tuE) (M := delL p q (l.take i)) (x := ⟨F1, E1 - F1, aa, nn⟩) hown')
        have gN : G w1 w6 := Below.grown (B := w1.heap.size) (show G w1 _ from by repeat' (first | (with_reducible exact g14) | (with_reducible refine G.drew ?_) | (with_reducible refine G.drewN ?_ _) | (with_reducible refine G.alloc ?_ _) | (with_reducible refine G.setCell ?_ (by exact HSB.out) _))) hgrow (by have := HS4.out; have := gr.size; simp [go_sem]; omega) (fun k hk => hR.out.own k hk)
        go_roundg (n - (i + 1))
        case measure => have := HQ.out; omega
        case rel => exact ⟨i + 1, v', rfl, by first | rfl | go_num, rfl, by omega, Lib.hid (by rw [HX.out]; exact RN.out), gN⟩
      · have HX := Lib.hid (show delL p q (l.take (i + 1)) = delL p q (l.take i) by rw [HNX.out, HD.out, if_neg hpos, List.append_nil])
        go_wp2_with fail
        go_roundg (n - (i + 1))
        case measure => have := HQ.out; omega
        case rel => exact ⟨i + 1, v, rfl, by first | rfl | go_num, rfl, by omega, Lib.hid (by
          rw [HX.out]
          exact hR.out.later (show G wr _ from by repeat' (first | (with_reducible exact gwr4) | (with_reducible refine G.drew ?_) | (with_reducible refine G.drewN ?_ _) | (with_reducible refine G.alloc ?_ _) | (with_reducible refine G.setCell ?_ (by exact HBW.out) _)))), by repeat' (first | (with_reducible exact g14) | (with_reducible refine G.drew ?_) | (with_reducible refine G.drewN ?_ _) | (with_reducible refine G.alloc ?_ _) | (with_reducible refine G.setCell ?_ (by exact HSB.out) _))⟩
    · have hii : i = n := by omega
      have hR2 := hR.out
      rw [hii, List.take_of_length_le (by have := HL.out; omega)] at hR2
      obtain ⟨pa, pc, rfl, hTA, hz⟩ := hR2.tusz
      have HTA := Lib.hid (And.intro hTA hz)
      have HDL := Lib.hid (show (delL p q l).length ≤ 20 from Nat.le_trans (delL_len _ _ _) (by have := HL.out; omega))
      clear hTA hz hR2 hR z1 z2
      go_wp2_with fail
      refine (Canonical_any pa _ _ pc _ rfl HDL.out (HTA.out.1.later (by (repeat' (first | (with_reducible exact G.refl _) | (with_reducible assumption) | (with_reducible refine G.drewN ?_ _) | (with_reducible refine G.drew ?_) | (with_reducible refine G.alloc ?_ _) | (with_reducible refine G.setCell ?_ (by first | (with_reducible exact Nat.le_refl _) | (simp; done) | (simp; omega) | omega) _) | (with_reducible refine G.trans ?_ (by assumption)))))) HTA.out.2).mono ?_
      rintro e w5 ⟨pp, cap, rfl, hT5, hG5⟩
      have HT5 := Lib.hid hT5
      clear hT5
      go_wp2_with fail
      go_returns
      refine ⟨.slice pp (delL p q l).length cap, by rw [HE0.out]; first | done | rfl, ?_, gwr.trans (by (repeat' (first | (with_reducible exact G.refl _) | (with_reducible assumption) | (with_reducible refine G.drewN ?_ _) | (with_reducible refine G.drew ?_) | (with_reducible refine G.alloc ?_ _) | (with_reducible refine G.setCell ?_ (by first | (with_reducible exact Nat.le_refl _) | (simp; done) | (simp; omega) | omega) _) | (with_reducible refine G.trans ?_ (by assumption)))))⟩
      unfold DelR
      rw [if_pos (by rw [hE.out]; exact HE0.out), sort_len]
      exact ⟨pp, cap, rfl, HT5.out.later (by (repeat' (first | (with_reducible exact G.refl _) | (with_reducible assumption) | (with_reducible refine G.drewN ?_ _) | (with_reducible refine G.drew ?_) | (with_reducible refine G.alloc ?_ _) | (with_reducible refine G.setCell ?_ (by first | (with_reducible exact Nat.le_refl _) | (simp; done) | (simp; omega) | omega) _) | (with_reducible refine G.trans ?_ (by assumption)))))⟩
end Go.Proofs.Ytabaiklagobimaa
