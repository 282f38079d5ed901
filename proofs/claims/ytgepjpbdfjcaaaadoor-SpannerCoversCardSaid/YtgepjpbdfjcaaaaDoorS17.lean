import Derived.Test.YtgepjpbdfjcaaaaDoorS16
import Derived.Maps.AppendAt
import Derived.BigRegion
/-! Spanners: Covering and Crossing -/
namespace Go.Proofs.YtgepjpbdfjcaaaaDoor
open Go.RowKit
attribute [local go_sem] World.cell?_alloc_some

set_option maxRecDepth 100000 in
set_option maxHeartbeats 6400000 in
theorem indC_any (a : Option Addr) (l : List Sp) (n c : Nat) (p : Pl) (K : Int) (c1 c2 : Nat) (w : World) (hn : l.length = n) (hl : n ≤ 20) (h1 : SpsAt w a l) (h2 : w.cell? ⟨c1, 0, none⟩ = some (.int .i64 K)) (h3 : B4 w c2 p) :
    Calls Tryd.prog 52 #[.slice a n c, .func (.func 53) #[] #[.pointer (some ⟨c1, 0, none⟩), .pointer (some ⟨c2, 0, none⟩)]] w fun e w' => ∃ v, e = .returned v ∧ Row inE 3 1 w.heap.size w' v (idx (covP K p) l 0) ∧ G w w' := by
  subst hn
  obtain ⟨i0, hi0, hz0, hz1, hz2⟩ := info_parts' iInfo
  have H1 := Lib.hid h1
  have HK := Lib.hid h2
  have HB := Lib.hid h3
  clear h2 h3
  clear h1
  go_enter Tryd.func52, Tryd.ntmps52
  go_wp2_with fail
  go_loopg [5, 10] l.length (fun q y x wr => ∃ (i : Nat) (v : Value), v = y ∧ x = .int .i64 i ∧ q = l.length - i ∧ i ≤ l.length ∧ Hid (Row inE 3 1 w.heap.size wr v (idx (covP K p) (l.take i) 0)) ∧ G w wr)
  case atStart => exact ⟨0, _, rfl, rfl, by omega, by omega, Lib.hid (Row.nil (enc := inE) w), by (repeat' (first | (with_reducible exact G.refl _) | (with_reducible assumption) | (with_reducible refine G.drewN ?_ _) | (with_reducible refine G.drew ?_) | (with_reducible refine G.alloc ?_ _) | (with_reducible refine G.setCell ?_ (by first | (with_reducible exact Nat.le_refl _) | (simp; done) | (simp; omega) | omega) _) | (with_reducible refine G.trans ?_ (by assumption))))⟩
  case round =>
    obtain ⟨i, v, rfl, rfl, hq, hi', hR, gr⟩ := hrel
    have HQ := Lib.hid hq
    clear hq
    by_cases hin : i < l.length
    · obtain ⟨x, hp⟩ : ∃ c, l[i]? = some c := ⟨l[i], List.getElem?_eq_getElem hin⟩
      rcases H1.out with hz | ⟨bl, of, rfl, fc⟩
      · rw [hz] at hin; exact absurd hin (by simp)
      obtain ⟨x0, x1, x2, x3, x4, x5, x6, x7, x8⟩ := (fc i _ hp).later gr
      have HX := Lib.hid (idx_take (P := covP K p) hp)
      have HLT := Lib.hid (show (idx (covP K p) (l.take i) 0).length ≤ 20 by have h2 := idx_len (covP K p) (l.take i) 0; rw [List.length_take] at h2; omega)
      have b1 : (0 : Int) ≤ (i : Int) := by omega
      have b2 : (i : Int) < (l.length : Int) := by omega
      have q1 := IntWalk.i64_in ((i : Int) + 1) (by omega)
      have hsz := gr.size
      clear fc hp
      go_wp2_with fail
      refine (covC_any x p K c1 c2 _ (G.at (show G w _ by (repeat' (first | (with_reducible exact G.refl _) | (with_reducible assumption) | (with_reducible refine G.drewN ?_ _) | (with_reducible refine G.drew ?_) | (with_reducible refine G.alloc ?_ _) | (with_reducible refine G.setCell ?_ (by first | (with_reducible exact Nat.le_refl _) | (simp; done) | (simp; omega) | omega) _) | (with_reducible refine G.trans ?_ (by assumption))))) HK.out) (HB.out.later (by (repeat' (first | (with_reducible exact G.refl _) | (with_reducible assumption) | (with_reducible refine G.drewN ?_ _) | (with_reducible refine G.drew ?_) | (with_reducible refine G.alloc ?_ _) | (with_reducible refine G.setCell ?_ (by first | (with_reducible exact Nat.le_refl _) | (simp; done) | (simp; omega) | omega) _) | (with_reducible refine G.trans ?_ (by assumption))))))).mono ?_
      rintro e w3 ⟨rfl, hG3⟩
      have g3 : G wr w3 := G.trans (by (repeat' (first | (with_reducible exact G.refl _) | (with_reducible refine G.drewN ?_ _) | (with_reducible refine G.drew ?_) | (with_reducible refine G.alloc ?_ _)))) hG3
      have hs3 := g3.size
      by_cases hb : (covP K p) x = true
      · rw [hb]
        have HX2 := Lib.hid (show idx (covP K p) (l.take (i + 1)) 0 = idx (covP K p) (l.take i) 0 ++ [(i : Int)] by rw [HX.out, if_pos hb])
        clear hb
        go_wp2_with (at_builtin; refine wpList_append_own _ rfl _ _ 51 rfl w.heap.size 3 i0 (.int .i64 0) 1 8 Tryd.underlying51 hi0 hz0 hz1 hz2 rfl (by decide) v (idx (covP K p) (l.take i) 0).length ((idx (covP K p) (l.take i) 0).flatMap inE) rfl (hR.out.later (by (repeat' (first | (with_reducible exact G.refl _) | (with_reducible assumption) | (with_reducible refine G.drewN ?_ _) | (with_reducible refine G.drew ?_) | (with_reducible refine G.alloc ?_ _) | (with_reducible refine G.setCell ?_ (by first | (with_reducible exact Nat.le_refl _) | (simp; done) | (simp; omega) | omega) _) | (with_reducible refine G.trans ?_ (by assumption)))))) ⟨w3.heap.size, 0, none⟩ 1 1 [.int .i64 i] rfl rfl (new_add _ _ [.int .i64 i] _ (by simp [go_sem])) (by simp [Value.oneCell']) (by unfold maxLen; have := HLT.out; omega) (by have := HLT.out; omega) (by simp; omega) ?_; intro v' w6 hown' hgrow _)
        have RN := Lib.hid (Row.more (enc := inE) (M := idx (covP K p) (l.take i) 0) (x := (i : Int)) hown')
        have gN : G w w6 := Below.grown (B := w.heap.size) (show G w _ by (repeat' (first | (with_reducible exact G.refl _) | (with_reducible assumption) | (with_reducible refine G.drewN ?_ _) | (with_reducible refine G.drew ?_) | (with_reducible refine G.alloc ?_ _) | (with_reducible refine G.setCell ?_ (by first | (with_reducible exact Nat.le_refl _) | (simp; done) | (simp; omega) | omega) _) | (with_reducible refine G.trans ?_ (by assumption))))) hgrow (by simp; omega) (fun k hk => hR.out.own k hk)
        go_roundg (l.length - (i + 1))
        case measure => have := HQ.out; omega
        case rel => exact ⟨i + 1, v', rfl, by first | rfl | simp, rfl, by omega, Lib.hid (by rw [HX2.out]; exact RN.out), gN⟩
      · have hb' : (covP K p) x = false := by simpa using hb
        rw [hb']
        have HX2 := Lib.hid (show idx (covP K p) (l.take (i + 1)) 0 = idx (covP K p) (l.take i) 0 by rw [HX.out, if_neg hb, List.append_nil])
        clear hb hb'
        go_wp2_with fail
        go_roundg (l.length - (i + 1))
        case measure => have := HQ.out; omega
        case rel => exact ⟨i + 1, v, rfl, by first | rfl | simp, rfl, by omega, Lib.hid (by rw [HX2.out]; exact hR.out.later (by (repeat' (first | (with_reducible exact G.refl _) | (with_reducible assumption) | (with_reducible refine G.drewN ?_ _) | (with_reducible refine G.drew ?_) | (with_reducible refine G.alloc ?_ _) | (with_reducible refine G.setCell ?_ (by first | (with_reducible exact Nat.le_refl _) | (simp; done) | (simp; omega) | omega) _) | (with_reducible refine G.trans ?_ (by assumption)))))), by (repeat' (first | (with_reducible exact G.refl _) | (with_reducible assumption) | (with_reducible refine G.drewN ?_ _) | (with_reducible refine G.drew ?_) | (with_reducible refine G.alloc ?_ _) | (with_reducible refine G.setCell ?_ (by first | (with_reducible exact Nat.le_refl _) | (simp; done) | (simp; omega) | omega) _) | (with_reducible refine G.trans ?_ (by assumption))))⟩
    · have hii : i = l.length := by omega
      subst hii
      rw [List.take_length] at hR
      go_wp2_with fail
      go_ret
      exact ⟨_, rfl, hR.out, gr⟩
set_option maxRecDepth 100000 in
set_option maxHeartbeats 6400000 in
theorem indX_any (a : Option Addr) (l : List Sp) (n c : Nat) (m : Int) (c1 : Nat) (w : World) (hn : l.length = n) (hl : n ≤ 20) (h1 : SpsAt w a l) (h2 : w.cell? ⟨c1, 0, none⟩ = some (.int .i64 m)) :
    Calls Tryd.prog 52 #[.slice a n c, .func (.func 55) #[] #[.pointer (some ⟨c1, 0, none⟩)]] w fun e w' => ∃ v, e = .returned v ∧ Row inE 3 1 w.heap.size w' v (idx (crsP m) l 0) ∧ G w w' := by
  subst hn
  obtain ⟨i0, hi0, hz0, hz1, hz2⟩ := info_parts' iInfo
  have H1 := Lib.hid h1
  have HK := Lib.hid h2
  clear h2
  clear h1
  go_enter Tryd.func52, Tryd.ntmps52
  go_wp2_with fail
  go_loopg [5, 10] l.length (fun q y x wr => ∃ (i : Nat) (v : Value), v = y ∧ x = .int .i64 i ∧ q = l.length - i ∧ i ≤ l.length ∧ Hid (Row inE 3 1 w.heap.size wr v (idx (crsP m) (l.take i) 0)) ∧ G w wr)
  case atStart => exact ⟨0, _, rfl, rfl, by omega, by omega, Lib.hid (Row.nil (enc := inE) w), by (repeat' (first | (with_reducible exact G.refl _) | (with_reducible assumption) | (with_reducible refine G.drewN ?_ _) | (with_reducible refine G.drew ?_) | (with_reducible refine G.alloc ?_ _) | (with_reducible refine G.setCell ?_ (by first | (with_reducible exact Nat.le_refl _) | (simp; done) | (simp; omega) | omega) _) | (with_reducible refine G.trans ?_ (by assumption))))⟩
  case round =>
    obtain ⟨i, v, rfl, rfl, hq, hi', hR, gr⟩ := hrel
    have HQ := Lib.hid hq
    clear hq
    by_cases hin : i < l.length
    · obtain ⟨x, hp⟩ : ∃ c, l[i]? = some c := ⟨l[i], List.getElem?_eq_getElem hin⟩
      rcases H1.out with hz | ⟨bl, of, rfl, fc⟩
      · rw [hz] at hin; exact absurd hin (by simp)
      obtain ⟨x0, x1, x2, x3, x4, x5, x6, x7, x8⟩ := (fc i _ hp).later gr
      have HX := Lib.hid (idx_take (P := crsP m) hp)
      have HLT := Lib.hid (show (idx (crsP m) (l.take i) 0).length ≤ 20 by have h2 := idx_len (crsP m) (l.take i) 0; rw [List.length_take] at h2; omega)
      have b1 : (0 : Int) ≤ (i : Int) := by omega
      have b2 : (i : Int) < (l.length : Int) := by omega
      have q1 := IntWalk.i64_in ((i : Int) + 1) (by omega)
      have hsz := gr.size
      clear fc hp
      go_wp2_with fail
      refine (crsC_any x m c1 _ (G.at (show G w _ by (repeat' (first | (with_reducible exact G.refl _) | (with_reducible assumption) | (with_reducible refine G.drewN ?_ _) | (with_reducible refine G.drew ?_) | (with_reducible refine G.alloc ?_ _) | (with_reducible refine G.setCell ?_ (by first | (with_reducible exact Nat.le_refl _) | (simp; done) | (simp; omega) | omega) _) | (with_reducible refine G.trans ?_ (by assumption))))) HK.out)).mono ?_
      rintro e w3 ⟨rfl, hG3⟩
      have g3 : G wr w3 := G.trans (by (repeat' (first | (with_reducible exact G.refl _) | (with_reducible refine G.drewN ?_ _) | (with_reducible refine G.drew ?_) | (with_reducible refine G.alloc ?_ _)))) hG3
      have hs3 := g3.size
      by_cases hb : (crsP m) x = true
      · rw [hb]
        have HX2 := Lib.hid (show idx (crsP m) (l.take (i + 1)) 0 = idx (crsP m) (l.take i) 0 ++ [(i : Int)] by rw [HX.out, if_pos hb])
        clear hb
        go_wp2_with (at_builtin; refine wpList_append_own _ rfl _ _ 51 rfl w.heap.size 3 i0 (.int .i64 0) 1 8 Tryd.underlying51 hi0 hz0 hz1 hz2 rfl (by decide) v (idx (crsP m) (l.take i) 0).length ((idx (crsP m) (l.take i) 0).flatMap inE) rfl (hR.out.later (by (repeat' (first | (with_reducible exact G.refl _) | (with_reducible assumption) | (with_reducible refine G.drewN ?_ _) | (with_reducible refine G.drew ?_) | (with_reducible refine G.alloc ?_ _) | (with_reducible refine G.setCell ?_ (by first | (with_reducible exact Nat.le_refl _) | (simp; done) | (simp; omega) | omega) _) | (with_reducible refine G.trans ?_ (by assumption)))))) ⟨w3.heap.size, 0, none⟩ 1 1 [.int .i64 i] rfl rfl (new_add _ _ [.int .i64 i] _ (by simp [go_sem])) (by simp [Value.oneCell']) (by unfold maxLen; have := HLT.out; omega) (by have := HLT.out; omega) (by simp; omega) ?_; intro v' w6 hown' hgrow _)
        have RN := Lib.hid (Row.more (enc := inE) (M := idx (crsP m) (l.take i) 0) (x := (i : Int)) hown')
        have gN : G w w6 := Below.grown (B := w.heap.size) (show G w _ by (repeat' (first | (with_reducible exact G.refl _) | (with_reducible assumption) | (with_reducible refine G.drewN ?_ _) | (with_reducible refine G.drew ?_) | (with_reducible refine G.alloc ?_ _) | (with_reducible refine G.setCell ?_ (by first | (with_reducible exact Nat.le_refl _) | (simp; done) | (simp; omega) | omega) _) | (with_reducible refine G.trans ?_ (by assumption))))) hgrow (by simp; omega) (fun k hk => hR.out.own k hk)
        go_roundg (l.length - (i + 1))
        case measure => have := HQ.out; omega
        case rel => exact ⟨i + 1, v', rfl, by first | rfl | simp, rfl, by omega, Lib.hid (by rw [HX2.out]; exact RN.out), gN⟩
      · have hb' : (crsP m) x = false := by simpa using hb
        rw [hb']
        have HX2 := Lib.hid (show idx (crsP m) (l.take (i + 1)) 0 = idx (crsP m) (l.take i) 0 by rw [HX.out, if_neg hb, List.append_nil])
        clear hb hb'
        go_wp2_with fail
        go_roundg (l.length - (i + 1))
        case measure => have := HQ.out; omega
        case rel => exact ⟨i + 1, v, rfl, by first | rfl | simp, rfl, by omega, Lib.hid (by rw [HX2.out]; exact hR.out.later (by (repeat' (first | (with_reducible exact G.refl _) | (with_reducible assumption) | (with_reducible refine G.drewN ?_ _) | (with_reducible refine G.drew ?_) | (with_reducible refine G.alloc ?_ _) | (with_reducible refine G.setCell ?_ (by first | (with_reducible exact Nat.le_refl _) | (simp; done) | (simp; omega) | omega) _) | (with_reducible refine G.trans ?_ (by assumption)))))), by (repeat' (first | (with_reducible exact G.refl _) | (with_reducible assumption) | (with_reducible refine G.drewN ?_ _) | (with_reducible refine G.drew ?_) | (with_reducible refine G.alloc ?_ _) | (with_reducible refine G.setCell ?_ (by first | (with_reducible exact Nat.le_refl _) | (simp; done) | (simp; omega) | omega) _) | (with_reducible refine G.trans ?_ (by assumption))))⟩
    · have hii : i = l.length := by omega
      subst hii
      rw [List.take_length] at hR
      go_wp2_with fail
      go_ret
      exact ⟨_, rfl, hR.out, gr⟩
set_option maxHeartbeats 3200000 in
theorem Covering_any (a : Option Addr) (l : List Sp) (n c : Nat) (p : Pl) (K : Int) (w : World) (hn : l.length = n) (hl : n ≤ 20) (h1 : SpsAt w a l) :
    Calls Tryd.prog 29 #[.slice a n c, .int .i64 K, .agg #[.int .i64 p.m, .int .i64 p.a, .int .i64 p.s, .int .i64 p.v]] w fun e w' => ∃ v, e = .returned v ∧ Row inE 3 1 w.heap.size w' v (idx (covP K p) l 0) ∧ G w w' := by
  have H1 := Lib.hid h1
  have HN := Lib.hid (And.intro hn hl)
  clear h1 hn hl
  go_enter Tryd.func29, Tryd.ntmps29
  go_wp2_with fail
  refine (indC_any a l n c p K w.heap.size (w.heap.size + 1) _ HN.out.1 HN.out.2 (H1.out.later (by (repeat' (first | (with_reducible exact G.refl _) | (with_reducible assumption) | (with_reducible refine G.drewN ?_ _) | (with_reducible refine G.drew ?_) | (with_reducible refine G.alloc ?_ _) | (with_reducible refine G.setCell ?_ (by first | (with_reducible exact Nat.le_refl _) | (simp; done) | (simp; omega) | omega) _) | (with_reducible refine G.trans ?_ (by assumption)))))) (by go_cell) (B4.made (W := w.alloc (.cells #[.int .i64 K] 3)) (by simp) (by (repeat' (first | (with_reducible exact G.refl _) | (with_reducible assumption) | (with_reducible refine G.drewN ?_ _) | (with_reducible refine G.drew ?_) | (with_reducible refine G.alloc ?_ _) | (with_reducible refine G.setCell ?_ (by first | (with_reducible exact Nat.le_refl _) | (simp; done) | (simp; omega) | omega) _) | (with_reducible refine G.trans ?_ (by assumption))))))).mono ?_
  rintro e w1 ⟨v, rfl, hR, hG⟩
  go_wp2_with fail
  go_ret
  exact ⟨v, rfl, own_base hR (by simp; try omega), by (repeat' (first | (with_reducible exact G.refl _) | (with_reducible assumption) | (with_reducible refine G.drewN ?_ _) | (with_reducible refine G.drew ?_) | (with_reducible refine G.alloc ?_ _) | (with_reducible refine G.setCell ?_ (by first | (with_reducible exact Nat.le_refl _) | (simp; done) | (simp; omega) | omega) _) | (with_reducible refine G.trans ?_ (by assumption))))⟩
set_option maxHeartbeats 3200000 in
theorem Crossing_any (a : Option Addr) (l : List Sp) (n c : Nat) (m : Int) (w : World) (hn : l.length = n) (hl : n ≤ 20) (h1 : SpsAt w a l) :
    Calls Tryd.prog 30 #[.slice a n c, .int .i64 m] w fun e w' => ∃ v, e = .returned v ∧ Row inE 3 1 w.heap.size w' v (idx (crsP m) l 0) ∧ G w w' := by
  have H1 := Lib.hid h1
  have HN := Lib.hid (And.intro hn hl)
  clear h1 hn hl
  go_enter Tryd.func30, Tryd.ntmps30
  go_wp2_with fail
  refine (indX_any a l n c m w.heap.size _ HN.out.1 HN.out.2 (H1.out.later (by (repeat' (first | (with_reducible exact G.refl _) | (with_reducible assumption) | (with_reducible refine G.drewN ?_ _) | (with_reducible refine G.drew ?_) | (with_reducible refine G.alloc ?_ _) | (with_reducible refine G.setCell ?_ (by first | (with_reducible exact Nat.le_refl _) | (simp; done) | (simp; omega) | omega) _) | (with_reducible refine G.trans ?_ (by assumption)))))) (by go_cell)).mono ?_
  rintro e w1 ⟨v, rfl, hR, hG⟩
  go_wp2_with fail
  go_ret
  exact ⟨v, rfl, own_base hR (by simp; try omega), by (repeat' (first | (with_reducible exact G.refl _) | (with_reducible assumption) | (with_reducible refine G.drewN ?_ _) | (with_reducible refine G.drew ?_) | (with_reducible refine G.alloc ?_ _) | (with_reducible refine G.setCell ?_ (by first | (with_reducible exact Nat.le_refl _) | (simp; done) | (simp; omega) | omega) _) | (with_reducible refine G.trans ?_ (by assumption))))⟩
end Go.Proofs.YtgepjpbdfjcaaaaDoor
