import Derived.Test.YtgepjpbdfjcaaaaDoorSL
import Derived.Test.YtgepjpbdfjcaaaaDoorS2
import Derived.Test.YtgepjpbdfjcaaaaDoorS7
/-! Spanners: Check of the program. -/
namespace Go.Proofs.YtgepjpbdfjcaaaaDoor
open Go.RowKit
attribute [local go_sem] World.cell?_alloc_some

set_option maxHeartbeats 3200000 in
theorem earlier_any (y x : Sp) (bs : Nat) (w : World) (h : B9 w bs x) :
    Calls Tryd.prog 49 #[.agg #[.int .i64 y.k, .int .i64 y.f.m, .int .i64 y.f.a, .int .i64 y.f.s, .int .i64 y.f.v, .int .i64 y.t.m, .int .i64 y.t.a, .int .i64 y.t.s, .int .i64 y.t.v], .pointer (some ⟨bs, 0, none⟩)] w fun e w' => e = .returned (.bool (decide (Cnf y x))) ∧ G w w' := by
  obtain ⟨x0, x1, x2, x3, x4, x5, x6, x7, x8⟩ := h
  go_enter Tryd.func49, Tryd.ntmps49
  go_wp2_with fail
  refine (sConflict_any y x _).mono ?_
  rintro e w1 ⟨rfl, hG1⟩
  go_wp2_with fail
  go_ret
  exact ⟨by first | done | rfl, by (repeat' (first | (with_reducible exact G.refl _) | (with_reducible assumption) | (with_reducible refine G.drewN ?_ _) | (with_reducible refine G.drew ?_) | (with_reducible refine G.alloc ?_ _) | (with_reducible refine G.setCell ?_ (by first | (with_reducible exact Nat.le_refl _) | (simp; done) | (simp; omega) | omega) _) | (with_reducible refine G.trans ?_ (by assumption))))⟩
set_option maxRecDepth 100000 in
set_option maxHeartbeats 6400000 in
theorem IndexFunc_any (a : Option Addr) (l : List Sp) (n c bs : Nat) (x : Sp) (w : World) (hn : l.length = n) (hm : n ≤ 5000) (h1 : SpsAt w a l) (hb : B9 w bs x) :
    Calls Tryd.prog 63 #[.slice a n c, .func (.func 49) #[] #[.pointer (some ⟨bs, 0, none⟩)]] w fun e w' => (∃ z : Int, e = .returned (.int .i64 z) ∧ (0 ≤ z ↔ ∃ y ∈ l, Cnf y x)) ∧ G w w' := by
  subst hn
  have H1 := Lib.hid h1
  have HB := Lib.hid hb
  clear h1 hb
  go_enter Tryd.func63, Tryd.ntmps63
  go_wp2_with fail
  go_loopg [8] l.length (fun q k wr => ∃ i : Nat, k = .int .i64 i ∧ q = l.length - i ∧ i ≤ l.length ∧ Hid (∀ y ∈ l.take i, ¬ Cnf y x) ∧ G w wr)
  case atStart => exact ⟨0, rfl, rfl, by omega, Lib.hid (by simp), by (repeat' (first | (with_reducible exact G.refl _) | (with_reducible assumption) | (with_reducible refine G.drewN ?_ _) | (with_reducible refine G.drew ?_) | (with_reducible refine G.alloc ?_ _) | (with_reducible refine G.setCell ?_ (by first | (with_reducible exact Nat.le_refl _) | (simp; done) | (simp; omega) | omega) _) | (with_reducible refine G.trans ?_ (by assumption))))⟩
  case round =>
    obtain ⟨i, rfl, hq, hi, hN, gr⟩ := hrel
    have HQ := Lib.hid hq
    clear hq
    by_cases hin : i < l.length
    · obtain ⟨y, hp⟩ : ∃ z, l[i]? = some z := ⟨l[i], List.getElem?_eq_getElem hin⟩
      rcases H1.out with hz | ⟨b0, of, rfl, fc⟩
      · rw [hz] at hin; exact absurd hin (by simp)
      obtain ⟨x0, x1, x2, x3, x4, x5, x6, x7, x8⟩ := (fc i _ hp).later gr
      have HT := Lib.hid (take_one hp)
      have HM := Lib.hid (List.mem_of_getElem? hp)
      have b1 : (0 : Int) ≤ (i : Int) := by omega
      have b2 : (i : Int) < (l.length : Int) := by omega
      have q1 := IntWalk.i64_in ((i : Int) + 1) (by omega)
      clear fc hp
      go_wp2_with fail
      refine (earlier_any y x bs _ (HB.out.later (by (repeat' (first | (with_reducible exact G.refl _) | (with_reducible assumption) | (with_reducible refine G.drewN ?_ _) | (with_reducible refine G.drew ?_) | (with_reducible refine G.alloc ?_ _) | (with_reducible refine G.setCell ?_ (by first | (with_reducible exact Nat.le_refl _) | (simp; done) | (simp; omega) | omega) _) | (with_reducible refine G.trans ?_ (by assumption))))))).mono ?_
      rintro e w1 ⟨rfl, hG1⟩
      by_cases hc : Cnf y x
      · rw [decide_eq_true hc]
        have HC := Lib.hid hc
        clear hc
        go_wp2_with fail
        go_ret
        exact ⟨⟨(i : Int), by first | done | rfl, ⟨fun _ => ⟨y, HM.out, HC.out⟩, fun _ => by omega⟩⟩, by (repeat' (first | (with_reducible exact G.refl _) | (with_reducible assumption) | (with_reducible refine G.drewN ?_ _) | (with_reducible refine G.drew ?_) | (with_reducible refine G.alloc ?_ _) | (with_reducible refine G.setCell ?_ (by first | (with_reducible exact Nat.le_refl _) | (simp; done) | (simp; omega) | omega) _) | (with_reducible refine G.trans ?_ (by assumption))))⟩
      · rw [decide_eq_false hc]
        have HC := Lib.hid hc
        clear hc
        go_wp2_with fail
        go_roundg (l.length - (i + 1))
        case measure => have := HQ.out; omega
        case rel => exact ⟨i + 1, by go_num, rfl, by omega, Lib.hid (fun z hz => by
          rw [HT.out] at hz
          rcases List.mem_append.1 hz with hz | hz
          · exact hN.out z hz
          · obtain rfl : z = y := by simpa using hz
            exact HC.out), by (repeat' (first | (with_reducible exact G.refl _) | (with_reducible assumption) | (with_reducible refine G.drewN ?_ _) | (with_reducible refine G.drew ?_) | (with_reducible refine G.alloc ?_ _) | (with_reducible refine G.setCell ?_ (by first | (with_reducible exact Nat.le_refl _) | (simp; done) | (simp; omega) | omega) _) | (with_reducible refine G.trans ?_ (by assumption))))⟩
    · have hii : i = l.length := by omega
      subst hii
      rw [List.take_length] at hN
      go_wp2_with fail
      go_ret
      exact ⟨⟨-1, by first | done | rfl, ⟨fun h => by omega, fun ⟨y, hy, hc⟩ => absurd hc (hN.out y hy)⟩⟩, by (repeat' (first | (with_reducible exact G.refl _) | (with_reducible assumption) | (with_reducible refine G.drewN ?_ _) | (with_reducible refine G.drew ?_) | (with_reducible refine G.alloc ?_ _) | (with_reducible refine G.setCell ?_ (by first | (with_reducible exact Nat.le_refl _) | (simp; done) | (simp; omega) | omega) _) | (with_reducible refine G.trans ?_ (by assumption))))⟩
set_option maxHeartbeats 3200000 in
theorem ContainsFunc_any (a : Option Addr) (l : List Sp) (n c bs : Nat) (x : Sp) (w : World) (hn : l.length = n) (hm : n ≤ 5000) (h1 : SpsAt w a l) (hb : B9 w bs x) :
    Calls Tryd.prog 48 #[.slice a n c, .func (.func 49) #[] #[.pointer (some ⟨bs, 0, none⟩)]] w fun e w' => e = .returned (.bool (l.any (fun y => decide (Cnf y x)))) ∧ G w w' := by
  obtain ⟨R, hR⟩ : ∃ z : Bool, Hid (z = l.any (fun y => decide (Cnf y x))) := ⟨_, rfl⟩
  rw [← hR.out]
  have H1 := Lib.hid h1
  have HB := Lib.hid hb
  have HN := Lib.hid hn
  clear h1 hb hn
  go_enter Tryd.func48, Tryd.ntmps48
  go_wp2_with fail
  refine (IndexFunc_any a l n c bs x _ HN.out hm (H1.out.later (by (repeat' (first | (with_reducible exact G.refl _) | (with_reducible assumption) | (with_reducible refine G.drewN ?_ _) | (with_reducible refine G.drew ?_) | (with_reducible refine G.alloc ?_ _) | (with_reducible refine G.setCell ?_ (by first | (with_reducible exact Nat.le_refl _) | (simp; done) | (simp; omega) | omega) _) | (with_reducible refine G.trans ?_ (by assumption)))))) (HB.out.later (by (repeat' (first | (with_reducible exact G.refl _) | (with_reducible assumption) | (with_reducible refine G.drewN ?_ _) | (with_reducible refine G.drew ?_) | (with_reducible refine G.alloc ?_ _) | (with_reducible refine G.setCell ?_ (by first | (with_reducible exact Nat.le_refl _) | (simp; done) | (simp; omega) | omega) _) | (with_reducible refine G.trans ?_ (by assumption))))))).mono ?_
  rintro e w1 ⟨⟨z, rfl, hz⟩, hG1⟩
  have HZ := Lib.hid (show R = decide (0 ≤ z) by
    rw [hR.out, Bool.eq_iff_iff, List.any_eq_true, decide_eq_true_iff, hz]
    constructor
    · rintro ⟨y, hy, h⟩; exact ⟨y, hy, of_decide_eq_true h⟩
    · rintro ⟨y, hy, h⟩; exact ⟨y, hy, decide_eq_true h⟩)
  clear hz
  go_wp2_with fail
  go_ret
  exact ⟨by rw [HZ.out]; first | done | rfl, by (repeat' (first | (with_reducible exact G.refl _) | (with_reducible assumption) | (with_reducible refine G.drewN ?_ _) | (with_reducible refine G.drew ?_) | (with_reducible refine G.alloc ?_ _) | (with_reducible refine G.setCell ?_ (by first | (with_reducible exact Nat.le_refl _) | (simp; done) | (simp; omega) | omega) _) | (with_reducible refine G.trans ?_ (by assumption))))⟩

theorem ckR_go {l : List Sp} {i : Nat} {x : Sp} (h : l[i]? = some x) (h0 : prS x = 0) (h1 : (l.take i).any (fun y => decide (Cnf y x)) = false) : ckR (l.take i) (l.drop i) = ckR (l.take (i + 1)) (l.drop (i + 1)) := by
  rw [drop_one h, ckR, if_pos h0, if_neg (by rw [h1]; simp), take_one h]
theorem ckR_hit {l : List Sp} {i : Nat} {x : Sp} (h : l[i]? = some x) (h0 : prS x = 0) (h1 : (l.take i).any (fun y => decide (Cnf y x)) = true) : ckR (l.take i) (l.drop i) = ((i : Int), 26) := by
  rw [drop_one h, ckR, if_pos h0, if_pos h1, List.length_take, Nat.min_eq_left (by have := (List.getElem?_eq_some_iff.1 h).1; omega)]
theorem ckR_bad {l : List Sp} {i : Nat} {x : Sp} (h : l[i]? = some x) (h0 : ¬ prS x = 0) : ckR (l.take i) (l.drop i) = ((i : Int), prS x) := by
  rw [drop_one h, ckR, if_neg h0, List.length_take, Nat.min_eq_left (by have := (List.getElem?_eq_some_iff.1 h).1; omega)]
set_option maxRecDepth 100000 in
set_option maxHeartbeats 12800000 in
theorem sCheck_any (a : Option Addr) (l : List Sp) (n c : Nat) (w : World) (hn : l.length = n) (hc : n ≤ c) (hm : n ≤ 5000) (h1 : SpsAt w a l) :
    Calls Tryd.prog 22 #[.slice a n c] w fun e w' => e = .returned (.tuple #[.int .i64 (ckS l).1, .int .i64 (ckS l).2]) ∧ G w w' := by
  subst hn
  have H1 := Lib.hid h1
  clear h1
  obtain ⟨X, hX⟩ : ∃ z : Int, Hid (z = (ckS l).1) := ⟨_, rfl⟩
  obtain ⟨Y, hY⟩ : ∃ z : Int, Hid (z = (ckS l).2) := ⟨_, rfl⟩
  rw [← hX.out, ← hY.out]
  by_cases hl : (l.length : Int) ≤ 4096
  rotate_left
  · have HX := Lib.hid (show X = 4096 by rw [hX.out]; unfold ckS; rw [if_neg (by omega)])
    have HY := Lib.hid (show Y = 9 by rw [hY.out]; unfold ckS; rw [if_neg (by omega)])
    go_enter Tryd.func22, Tryd.ntmps22
    go_wp2_with fail
    go_returns
    exact ⟨by rw [HX.out, HY.out]; first | done | rfl, by (repeat' (first | (with_reducible exact G.refl _) | (with_reducible assumption) | (with_reducible refine G.drewN ?_ _) | (with_reducible refine G.drew ?_) | (with_reducible refine G.alloc ?_ _) | (with_reducible refine G.setCell ?_ (by first | (with_reducible exact Nat.le_refl _) | (simp; done) | (simp; omega) | omega) _) | (with_reducible refine G.trans ?_ (by assumption))))⟩
  have HS := Lib.hid (show ckS l = ckR [] l by unfold ckS; rw [if_pos (by omega)])
  have hcap : (l.length : Int) ≤ (c : Int) := by omega
  clear hc
  go_enter Tryd.func22, Tryd.ntmps22
  go_wp2_with fail
  go_loopg [12] l.length (fun q k wr => ∃ i : Nat, k = .int .i64 i ∧ q = l.length - i ∧ i ≤ l.length ∧ Hid (ckS l = ckR (l.take i) (l.drop i)) ∧ G w wr)
  case atStart => exact ⟨0, rfl, rfl, by omega, Lib.hid (by rw [HS.out]; simp), by (repeat' (first | (with_reducible exact G.refl _) | (with_reducible assumption) | (with_reducible refine G.drewN ?_ _) | (with_reducible refine G.drew ?_) | (with_reducible refine G.alloc ?_ _) | (with_reducible refine G.setCell ?_ (by first | (with_reducible exact Nat.le_refl _) | (simp; done) | (simp; omega) | omega) _) | (with_reducible refine G.trans ?_ (by assumption))))⟩
  case round =>
    obtain ⟨i, rfl, hq, hi, hN, gr⟩ := hrel
    have HQ := Lib.hid hq
    clear hq
    by_cases hin : i < l.length
    · obtain ⟨x, hp⟩ : ∃ z, l[i]? = some z := ⟨l[i], List.getElem?_eq_getElem hin⟩
      rcases H1.out with hz | ⟨b0, of, rfl, fc⟩
      · rw [hz] at hin; exact absurd hin (by simp)
      obtain ⟨x0, x1, x2, x3, x4, x5, x6, x7, x8⟩ := (fc i _ hp).later gr
      have HP := Lib.hid hp
      have HLT := Lib.hid (show (l.take i).length = i by rw [List.length_take]; omega)
      have b1 : (0 : Int) ≤ (i : Int) := by omega
      have b2 : (i : Int) < (l.length : Int) := by omega
      have b3 : (i : Int) ≤ (c : Int) := by omega
      have q1 := IntWalk.i64_in ((i : Int) + 1) (by omega)
      have hi5 : i ≤ 5000 := by omega
      clear fc hp
      go_wp2_with fail
      refine (sProper_any x _).mono ?_
      rintro e w1 ⟨rfl, hG1⟩
      have B1 := Lib.hid (B9.made rfl hG1)
      obtain ⟨E, hE⟩ : ∃ z : Int, Hid (z = prS x) := ⟨_, rfl⟩
      rw [← hE.out]
      by_cases hE0 : E = 0
      rotate_left
      · have HX := Lib.hid (show X = (i : Int) by rw [hX.out, hN.out, ckR_bad HP.out (by rw [← hE.out]; exact hE0)])
        have HY := Lib.hid (show Y = E by rw [hY.out, hN.out, ckR_bad HP.out (by rw [← hE.out]; exact hE0), hE.out])
        have e3 : (E == 0) = false := beq_false_of_ne hE0
        have e4 : (E != 0) = true := by simp [bne, e3]
        clear hE0
        go_wp2_with fail
        go_returns
        exact ⟨by rw [HX.out, HY.out]; first | done | rfl, by (repeat' (first | (with_reducible exact G.refl _) | (with_reducible assumption) | (with_reducible refine G.drewN ?_ _) | (with_reducible refine G.drew ?_) | (with_reducible refine G.alloc ?_ _) | (with_reducible refine G.setCell ?_ (by first | (with_reducible exact Nat.le_refl _) | (simp; done) | (simp; omega) | omega) _) | (with_reducible refine G.trans ?_ (by assumption))))⟩
      have HE := Lib.hid (show prS x = 0 by rw [← hE.out]; exact hE0)
      rw [hE0]
      clear hE0
      go_wp2_with fail
      refine (ContainsFunc_any _ (l.take i) i c _ x _ HLT.out hi5 ((H1.out.take i).later (by (repeat' (first | (with_reducible exact G.refl _) | (with_reducible assumption) | (with_reducible refine G.drewN ?_ _) | (with_reducible refine G.drew ?_) | (with_reducible refine G.alloc ?_ _) | (with_reducible refine G.setCell ?_ (by first | (with_reducible exact Nat.le_refl _) | (simp; done) | (simp; omega) | omega) _) | (with_reducible refine G.trans ?_ (by assumption)))))) B1.out).mono ?_
      rintro e w2 ⟨rfl, hG2⟩
      by_cases ha : (l.take i).any (fun y => decide (Cnf y x)) = true
      · rw [ha]
        have HX := Lib.hid (show X = (i : Int) by rw [hX.out, hN.out, ckR_hit HP.out HE.out ha])
        have HY := Lib.hid (show Y = 26 by rw [hY.out, hN.out, ckR_hit HP.out HE.out ha])
        clear ha
        go_wp2_with fail
        go_returns
        exact ⟨by rw [HX.out, HY.out]; first | done | rfl, by (repeat' (first | (with_reducible exact G.refl _) | (with_reducible assumption) | (with_reducible refine G.drewN ?_ _) | (with_reducible refine G.drew ?_) | (with_reducible refine G.alloc ?_ _) | (with_reducible refine G.setCell ?_ (by first | (with_reducible exact Nat.le_refl _) | (simp; done) | (simp; omega) | omega) _) | (with_reducible refine G.trans ?_ (by assumption))))⟩
      · have ha' : (l.take i).any (fun y => decide (Cnf y x)) = false := by simpa using ha
        rw [ha']
        have HN := Lib.hid (hN.out.trans (ckR_go HP.out HE.out ha'))
        clear ha ha'
        go_wp2_with fail
        go_roundg (l.length - (i + 1))
        case measure => have := HQ.out; omega
        case rel => exact ⟨i + 1, by go_num, rfl, by omega, HN, by (repeat' (first | (with_reducible exact G.refl _) | (with_reducible assumption) | (with_reducible refine G.drewN ?_ _) | (with_reducible refine G.drew ?_) | (with_reducible refine G.alloc ?_ _) | (with_reducible refine G.setCell ?_ (by first | (with_reducible exact Nat.le_refl _) | (simp; done) | (simp; omega) | omega) _) | (with_reducible refine G.trans ?_ (by assumption))))⟩
    · have hii : i = l.length := by omega
      subst hii
      have HX := Lib.hid (show X = -1 by rw [hX.out, hN.out, List.drop_length]; rfl)
      have HY := Lib.hid (show Y = 0 by rw [hY.out, hN.out, List.drop_length]; rfl)
      go_wp2_with fail
      go_returns
      exact ⟨by rw [HX.out, HY.out]; first | done | rfl, by (repeat' (first | (with_reducible exact G.refl _) | (with_reducible assumption) | (with_reducible refine G.drewN ?_ _) | (with_reducible refine G.drew ?_) | (with_reducible refine G.alloc ?_ _) | (with_reducible refine G.setCell ?_ (by first | (with_reducible exact Nat.le_refl _) | (simp; done) | (simp; omega) | omega) _) | (with_reducible refine G.trans ?_ (by assumption))))⟩
end Go.Proofs.YtgepjpbdfjcaaaaDoor
