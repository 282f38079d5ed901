import Derived.Test.YtfmjjbcmgkhgaaaDoorEnhEq
import Derived.Test.YtfmjjbcmgkhgaaaDoorEnhNe
/-! Simple: of the program and of the reference. -/
namespace Go.Proofs.YtfmjjbcmgkhgaaaDoor
open Go.RowKit
attribute [local go_sem] World.cell?_alloc_some

theorem set3b {w : World} {b : Nat} {x y z u v t : Value} (h0 : w.cell? ⟨b, 0, none⟩ = some x) (h1 : w.cell? ⟨b, 1, none⟩ = some y) (h2 : w.cell? ⟨b, 2, none⟩ = some z) :
    (((w.setCell ⟨b, 0, none⟩ u).setCell ⟨b, 1, none⟩ v).setCell ⟨b, 2, none⟩ t).cell? ⟨b, 0, none⟩ = some u ∧
    (((w.setCell ⟨b, 0, none⟩ u).setCell ⟨b, 1, none⟩ v).setCell ⟨b, 2, none⟩ t).cell? ⟨b, 1, none⟩ = some v ∧
    (((w.setCell ⟨b, 0, none⟩ u).setCell ⟨b, 1, none⟩ v).setCell ⟨b, 2, none⟩ t).cell? ⟨b, 2, none⟩ = some t :=
  ⟨by simp [go_sem, h0], by simp [go_sem, h1], by simp [go_sem, h2]⟩
def smA (n : Int) (flat : Bool) : Int := if spE n 0 = 0 then 0 else if flat then -1 else 1
set_option maxHeartbeats 1600000 in
theorem Simple_in (n : Int) (flat : Bool) (w : World) (h0 : 0 ≤ n) (h1 : n ≤ 127) (hT : Hts w) :
    Calls Tryd.prog 26 #[.int .i64 n, .bool flat] w fun e w' => e = .returned (.tuple #[.agg #[.int .i64 (spX n (smA n flat) (so ((n - smA n flat) % 12))), .int .i64 (spX n (smA n flat) (smA n flat)), .int .i64 (spX n (smA n flat) ((n - smA n flat + 12) / 12 - 2))], .int .i64 (spE n (smA n flat))]) ∧ G w w' := by
  have HT := Lib.hid hT
  have HD := Lib.hid (decide_eq_true (And.intro h0 h1))
  clear hT
  obtain ⟨E0, HE⟩ : ∃ z : Int, Hid (z = spE n 0) := ⟨_, rfl⟩
  by_cases hz : E0 = 0
  · have hb : (E0 == 0) = true := by rw [hz]; rfl
    have HA := Lib.hid (show smA n flat = 0 by unfold smA; rw [← HE.out, if_pos hz])
    rw [HA.out]
    go_enter Tryd.func26, Tryd.ntmps26
    go_wp2_with fail
    refine (isNumber_any _ _).mono ?_
    rintro e w1 ⟨rfl, rfl⟩
    rw [HD.out]
    go_wp2_with fail
    refine (spelled_any n 0 _ h0 h1 (by omega) (by omega) (HT.out.later (by (repeat' (first | (with_reducible exact G.refl _) | (with_reducible assumption) | (with_reducible refine G.drewN ?_ _) | (with_reducible refine G.drew ?_) | (with_reducible refine G.alloc ?_ _) | (with_reducible refine G.setCell ?_ (by first | (with_reducible exact Nat.le_refl _) | (simp; done) | (simp; omega) | omega) _) | (with_reducible refine G.trans ?_ (by assumption))))))).mono ?_
    rintro e w2 ⟨rfl, hG2⟩
    rw [← HE.out]
    obtain ⟨⟨z0, z1, z2⟩, f0, f1, f2⟩ := trif_later hG2
    have l0 : w.heap.size < w2.heap.size := cell_lt z0
    have y0 : ∀ o, (w2.alloc o).frozen? ⟨w.heap.size, 0, none⟩ = false := fun o => (((G.refl w2).alloc o).frozen l0).trans f0
    have y1 : ∀ o, (w2.alloc o).frozen? ⟨w.heap.size, 1, none⟩ = false := fun o => (((G.refl w2).alloc o).frozen l0).trans f1
    have y2 : ∀ o, (w2.alloc o).frozen? ⟨w.heap.size, 2, none⟩ = false := fun o => (((G.refl w2).alloc o).frozen l0).trans f2
    obtain ⟨k0, k1, k2⟩ := set3b (u := .int .i64 (spX n 0 (so (n % 12)))) (v := .int .i64 (spX n 0 0)) (t := .int .i64 (spX n 0 ((n + 12) / 12 - 2))) z0 z1 z2
    go_wp2_with fail
    refine bodyPost_ret (v := .tuple #[.agg #[.int .i64 (spX n 0 (so ((n - 0) % 12))), .int .i64 (spX n 0 0), .int .i64 (spX n 0 ((n - 0 + 12) / 12 - 2))], .int .i64 0]) (by simp [results, Tryd.results26, go_sem, k0, k1, k2]) rfl ⟨by rw [← HE.out, hz], ?_⟩
    (repeat' (first | (with_reducible exact G.refl _) | (with_reducible assumption) | (with_reducible refine G.drewN ?_ _) | (with_reducible refine G.drew ?_) | (with_reducible refine G.alloc ?_ _) | (with_reducible refine G.setCell ?_ (by first | (with_reducible exact Nat.le_refl _) | (simp; done) | (simp; omega) | omega) _) | (with_reducible refine G.trans ?_ (by assumption))))
  · have hb : (E0 == 0) = false := beq_false_of_ne hz
    obtain ⟨A, HA⟩ : ∃ z : Int, Hid (z = smA n flat) := ⟨_, rfl⟩
    rw [← HA.out]
    have hA : A = if flat then -1 else 1 := by rw [HA.out]; unfold smA; rw [← HE.out, if_neg hz]
    cases flat
    · obtain rfl : A = 1 := hA
      go_enter Tryd.func26, Tryd.ntmps26
      go_wp2_with fail
      refine (isNumber_any _ _).mono ?_
      rintro e w1 ⟨rfl, rfl⟩
      rw [HD.out]
      go_wp2_with fail
      refine (spelled_any n 0 _ h0 h1 (by omega) (by omega) (HT.out.later (by (repeat' (first | (with_reducible exact G.refl _) | (with_reducible assumption) | (with_reducible refine G.drewN ?_ _) | (with_reducible refine G.drew ?_) | (with_reducible refine G.alloc ?_ _) | (with_reducible refine G.setCell ?_ (by first | (with_reducible exact Nat.le_refl _) | (simp; done) | (simp; omega) | omega) _) | (with_reducible refine G.trans ?_ (by assumption))))))).mono ?_
      rintro e w2 ⟨rfl, hG2⟩
      rw [← HE.out]
      go_wp2_with fail
      refine (spelled_any n 1 _ h0 h1 (by omega) (by omega) (HT.out.later (by (repeat' (first | (with_reducible exact G.refl _) | (with_reducible assumption) | (with_reducible refine G.drewN ?_ _) | (with_reducible refine G.drew ?_) | (with_reducible refine G.alloc ?_ _) | (with_reducible refine G.setCell ?_ (by first | (with_reducible exact Nat.le_refl _) | (simp; done) | (simp; omega) | omega) _) | (with_reducible refine G.trans ?_ (by assumption))))))).mono ?_
      rintro e w3 ⟨rfl, hG3⟩
      obtain ⟨⟨z0, z1, z2⟩, f0, f1, f2⟩ := trif_later (hG2.trans (show G w2 w3 from G.trans (by (repeat' (first | (with_reducible exact G.refl _) | (with_reducible refine G.drewN ?_ _) | (with_reducible refine G.drew ?_) | (with_reducible refine G.alloc ?_ _)))) hG3))
      go_wp2_with fail
      refine bodyPost_ret (v := .tuple #[.agg #[.int .i64 (spX n 1 (so ((n - 1) % 12))), .int .i64 (spX n 1 1), .int .i64 (spX n 1 ((n - 1 + 12) / 12 - 2))], .int .i64 (spE n 1)]) (by simp [results, Tryd.results26, go_sem, z0, z1, z2]) rfl ⟨rfl, ?_⟩
      (repeat' (first | (with_reducible exact G.refl _) | (with_reducible assumption) | (with_reducible refine G.drewN ?_ _) | (with_reducible refine G.drew ?_) | (with_reducible refine G.alloc ?_ _) | (with_reducible refine G.setCell ?_ (by first | (with_reducible exact Nat.le_refl _) | (simp; done) | (simp; omega) | omega) _) | (with_reducible refine G.trans ?_ (by assumption))))
    · obtain rfl : A = -1 := hA
      go_enter Tryd.func26, Tryd.ntmps26
      go_wp2_with fail
      refine (isNumber_any _ _).mono ?_
      rintro e w1 ⟨rfl, rfl⟩
      rw [HD.out]
      go_wp2_with fail
      refine (spelled_any n 0 _ h0 h1 (by omega) (by omega) (HT.out.later (by (repeat' (first | (with_reducible exact G.refl _) | (with_reducible assumption) | (with_reducible refine G.drewN ?_ _) | (with_reducible refine G.drew ?_) | (with_reducible refine G.alloc ?_ _) | (with_reducible refine G.setCell ?_ (by first | (with_reducible exact Nat.le_refl _) | (simp; done) | (simp; omega) | omega) _) | (with_reducible refine G.trans ?_ (by assumption))))))).mono ?_
      rintro e w2 ⟨rfl, hG2⟩
      rw [← HE.out]
      go_wp2_with fail
      refine (spelled_any n (-1) _ h0 h1 (by omega) (by omega) (HT.out.later (by (repeat' (first | (with_reducible exact G.refl _) | (with_reducible assumption) | (with_reducible refine G.drewN ?_ _) | (with_reducible refine G.drew ?_) | (with_reducible refine G.alloc ?_ _) | (with_reducible refine G.setCell ?_ (by first | (with_reducible exact Nat.le_refl _) | (simp; done) | (simp; omega) | omega) _) | (with_reducible refine G.trans ?_ (by assumption))))))).mono ?_
      rintro e w3 ⟨rfl, hG3⟩
      obtain ⟨⟨z0, z1, z2⟩, f0, f1, f2⟩ := trif_later (hG2.trans (show G w2 w3 from G.trans (by (repeat' (first | (with_reducible exact G.refl _) | (with_reducible refine G.drewN ?_ _) | (with_reducible refine G.drew ?_) | (with_reducible refine G.alloc ?_ _)))) hG3))
      go_wp2_with fail
      refine bodyPost_ret (v := .tuple #[.agg #[.int .i64 (spX n (-1) (so ((n - (-1)) % 12))), .int .i64 (spX n (-1) (-1)), .int .i64 (spX n (-1) ((n - (-1) + 12) / 12 - 2))], .int .i64 (spE n (-1))]) (by simp [results, Tryd.results26, go_sem, z0, z1, z2]) rfl ⟨rfl, ?_⟩
      (repeat' (first | (with_reducible exact G.refl _) | (with_reducible assumption) | (with_reducible refine G.drewN ?_ _) | (with_reducible refine G.drew ?_) | (with_reducible refine G.alloc ?_ _) | (with_reducible refine G.setCell ?_ (by first | (with_reducible exact Nat.le_refl _) | (simp; done) | (simp; omega) | omega) _) | (with_reducible refine G.trans ?_ (by assumption))))
theorem Simple_out (n : Int) (flat : Bool) (w : World) (h : ¬ (0 ≤ n ∧ n ≤ 127)) :
    Calls Tryd.prog 26 #[.int .i64 n, .bool flat] w fun e w' => e = .returned (.tuple #[.agg #[.int .i64 0, .int .i64 0, .int .i64 0], .int .i64 2]) ∧ G w w' := by
  have HD := Lib.hid (decide_eq_false h)
  clear h
  go_enter Tryd.func26, Tryd.ntmps26
  go_wp2_with fail
  refine (isNumber_any _ _).mono ?_
  rintro e w1 ⟨rfl, rfl⟩
  rw [HD.out]
  go_wp2_with fail
  refine bodyPost_ret (v := .tuple #[.agg #[.int .i64 0, .int .i64 0, .int .i64 0], .int .i64 2]) (by simp [results, Tryd.results26, go_sem]) rfl ⟨rfl, ?_⟩
  (repeat' (first | (with_reducible exact G.refl _) | (with_reducible assumption) | (with_reducible refine G.drewN ?_ _) | (with_reducible refine G.drew ?_) | (with_reducible refine G.alloc ?_ _) | (with_reducible refine G.setCell ?_ (by first | (with_reducible exact Nat.le_refl _) | (simp; done) | (simp; omega) | omega) _) | (with_reducible refine G.trans ?_ (by assumption))))
/-- what the reference's Simple comes to -/
def rS (want : Int) : List P3 → P3 → P3
  | [], out => out
  | p :: l, out => if p.2.1 = 0 then p else rS want l (if p.2.1 = want then p else out)
theorem simple_eq0 : ((List.range 128).all fun n => ([true, false].all fun f => rS (if f then -1 else 1) (enh (n : Int) (alts 5)) (0, 0, 0) == (spX n (smA n f) (so (((n : Int) - smA n f) % 12)), spX n (smA n f) (smA n f), spX n (smA n f) (((n : Int) - smA n f + 12) / 12 - 2)) && spE n (smA n f) == 0)) = true := by decide +kernel
theorem simple_eq {n : Int} (h0 : 0 ≤ n) (h1 : n ≤ 127) (f : Bool) : rS (if f then -1 else 1) (enh n (alts 5)) (0, 0, 0) = (spX n (smA n f) (so ((n - smA n f) % 12)), spX n (smA n f) (smA n f), spX n (smA n f) ((n - smA n f + 12) / 12 - 2)) ∧ spE n (smA n f) = 0 := by
  have h := List.all_eq_true.1 simple_eq0 n.toNat (List.mem_range.2 (by omega))
  rw [show ((n.toNat : Nat) : Int) = n by omega] at h
  have h2 := List.all_eq_true.1 h f (by cases f <;> simp)
  rw [Bool.and_eq_true] at h2
  exact ⟨beq_iff_eq.1 h2.1, beq_iff_eq.1 h2.2⟩

theorem drop_cons {l : List P3} {i : Nat} {p : P3} (h : l[i]? = some p) : l.drop i = p :: l.drop (i + 1) := by
  obtain ⟨hi, hp⟩ := List.getElem?_eq_some_iff.1 h
  rw [List.drop_eq_getElem_cons hi, hp]
/-- a box of three cells that may be stored into -/
def Bt (W : World) (b : Nat) (p : P3) : Prop :=
  (W.cell? ⟨b, 0, none⟩ = some (.int .i64 p.1) ∧ W.cell? ⟨b, 1, none⟩ = some (.int .i64 p.2.1) ∧ W.cell? ⟨b, 2, none⟩ = some (.int .i64 p.2.2)) ∧
  W.frozen? ⟨b, 0, none⟩ = false ∧ W.frozen? ⟨b, 1, none⟩ = false ∧ W.frozen? ⟨b, 2, none⟩ = false
theorem Bt.set {W : World} {b : Nat} {p : P3} (h : Bt W b p) (q : P3) : Bt (((W.setCell ⟨b, 0, none⟩ (.int .i64 q.1)).setCell ⟨b, 1, none⟩ (.int .i64 q.2.1)).setCell ⟨b, 2, none⟩ (.int .i64 q.2.2)) b q := by
  obtain ⟨⟨h0, h1, h2⟩, f0, f1, f2⟩ := h
  exact ⟨set3b h0 h1 h2, by simp [go_sem, f0], by simp [go_sem, f1], by simp [go_sem, f2]⟩
theorem kx_set (b n₀ j : Nat) (W : World) (v : Value) : Kx b n₀ W (W.setCell ⟨b, j, none⟩ v) :=
  ⟨rfl, rfl, rfl, (KeepsWalks.setCell W _ v).size, fun k _ hk => Below.heap_setCell _ _ _ k (fun e => hk (by rw [e]))⟩

set_option maxRecDepth 20000 in
set_option maxHeartbeats 3200000 in
theorem rSimple_any (n : Int) (f : Bool) (w : World) (h0 : 0 ≤ n) (h1 : n ≤ 127) :
    Calls Tryd.prog 27 #[.int .i64 n, .bool f] w fun e w' => e = .returned (.agg #[.int .i64 (rS (if f then -1 else 1) (enh n (alts 5)) (0, 0, 0)).1, .int .i64 (rS (if f then -1 else 1) (enh n (alts 5)) (0, 0, 0)).2.1, .int .i64 (rS (if f then -1 else 1) (enh n (alts 5)) (0, 0, 0)).2.2]) ∧ G w w' := by
  have hlen := enh_length n (alts 5)
  rw [alts_length] at hlen
  have hne := enh_ne h0 h1
  have HE := Lib.hid (enh_eq h0 h1)
  generalize hl : enh n (alts 5) = l at *
  clear hl
  obtain ⟨wt, HW⟩ : ∃ z : Int, Hid (z = if f then -1 else 1) := ⟨_, rfl⟩
  rw [← HW.out]
  obtain ⟨R, HR⟩ : ∃ R : P3, Hid (rS wt l (0, 0, 0) = R) := ⟨_, rfl⟩
  rw [HR.out]
  go_enter Tryd.func27, Tryd.ntmps27
  go_wp2_with fail
  refine (rEnharmonics_any n _).mono ?_
  rintro e w1 ⟨v, rfl, ho, hG1⟩
  rw [HE.out] at ho
  obtain ⟨⟨t0, t1, t2⟩, e0, e1, e2⟩ := trif_later hG1
  rcases own_cells ho with ⟨_, q⟩ | ⟨g, cap, rfl, hg, hcap, hcap2, hc⟩
  · exact absurd q hne
  clear ho
  have HC := Lib.hid hc
  clear hc
  have sl := cell_lt t0
  have hwt : (f = true ∧ wt = -1) ∨ (f = false ∧ wt = 1) := by rw [HW.out]; cases f <;> simp
  rcases hwt with ⟨rfl, hw⟩ | ⟨rfl, hw⟩
  all_goals
    clear HW
    go_wp2_with fail
    obtain ⟨WL, hWL⟩ : ∃ WL : World, WL = w1.alloc (.cells #[.int .i64 0, .int .i64 0, .int .i64 0] 23) := ⟨_, rfl⟩
    have bt0 : Bt WL w1.heap.size (0, 0, 0) := by
      rw [hWL]
      obtain ⟨⟨a0, a1, a2⟩, a3, a4, a5⟩ := trif_later (G.refl (w1.alloc (.cells #[.int .i64 0, .int .i64 0, .int .i64 0] 23)))
      exact ⟨⟨a0, a1, a2⟩, a3, a4, a5⟩
    have gL : G w1 WL := by rw [hWL]; (repeat' (first | (with_reducible exact G.refl _) | (with_reducible assumption) | (with_reducible refine G.drewN ?_ _) | (with_reducible refine G.drew ?_) | (with_reducible refine G.alloc ?_ _) | (with_reducible refine G.setCell ?_ (by first | (with_reducible exact Nat.le_refl _) | (simp; done) | (simp; omega) | omega) _) | (with_reducible refine G.trans ?_ (by assumption))))
    have gw : G w w1 := by (repeat' (first | (with_reducible exact G.refl _) | (with_reducible assumption) | (with_reducible refine G.drewN ?_ _) | (with_reducible refine G.drew ?_) | (with_reducible refine G.alloc ?_ _) | (with_reducible refine G.setCell ?_ (by first | (with_reducible exact Nat.le_refl _) | (simp; done) | (simp; omega) | omega) _) | (with_reducible refine G.trans ?_ (by assumption))))
    have slz : WL.heap.size = w1.heap.size + 1 := by rw [hWL]; simp
    rw [← hWL]
    clear hWL
    go_loopg [8] l.length (fun k x wr => ∃ (i : Nat) (out : P3), x = .int .i64 i ∧ k = l.length - i ∧ i ≤ l.length ∧ Hid (rS wt (l.drop i) out = R) ∧ Bt wr w1.heap.size out ∧ Kx w1.heap.size (w1.heap.size + 1) WL wr)
    case atStart => exact ⟨0, _, rfl, by simp, by omega, by rw [List.drop_zero]; exact HR, bt0, Kx.refl _ _ _⟩
    case round =>
      obtain ⟨i, out, rfl, hgk, i1, hR, hB, hK⟩ := hrel
      have HGK := Lib.hid hgk
      clear hgk
      have tl : ∀ {p : Addr} {v : Value}, p.block < w1.heap.size → w1.cell? p = some v → wr.cell? p = some v := fun h1 h2 => (hK.cell (by omega) (by omega)).trans (gL.at h2)
      have tf : ∀ {p : Addr}, p.block < w1.heap.size → w1.frozen? p = false → wr.frozen? p = false := fun h1 h2 => (hK.frozen (by omega) (by omega)).trans ((gL.frozen h1).trans h2)
      have k0 := tl (p := ⟨w.heap.size, 0, none⟩) sl t0
      have k1 := tl (p := ⟨w.heap.size, 1, none⟩) sl t1
      have k2 := tl (p := ⟨w.heap.size, 2, none⟩) sl t2
      have y0 := tf (p := ⟨w.heap.size, 0, none⟩) sl e0
      have y1 := tf (p := ⟨w.heap.size, 1, none⟩) sl e1
      have y2 := tf (p := ⟨w.heap.size, 2, none⟩) sl e2
      have gwr : G w wr := Below.trans gw (Below.trans (Below.mono gL gw.size) (hK.below (m := w.heap.size) (by omega) (by omega)))
      have hB0 := hB
      obtain ⟨⟨q0, q1, q2⟩, f0, f1, f2⟩ := hB0
      by_cases hin : i < l.length
      · obtain ⟨p, hp⟩ : ∃ p, l[i]? = some p := ⟨l[i], List.getElem?_eq_getElem hin⟩
        obtain ⟨c0, c1, c2⟩ := HC.out i p hp
        have gl := cell_lt c0
        have d0 := tl gl c0
        have d1 := tl (p := ⟨g, 3 * i + 1, none⟩) gl c1
        have d2 := tl (p := ⟨g, 3 * i + 2, none⟩) gl c2
        rw [Nat.mul_comm] at d0 d1 d2
        have hd := hR.out
        rw [drop_cons hp] at hd
        clear hp c0 c1 c2 tl tf
        obtain ⟨p1, p2, p3⟩ := p
        dsimp only at d0 d1 d2
        by_cases hz : p2 = 0
        · subst hz
          have HRP := Lib.hid (show R = (p1, 0, p3) by rw [← hd]; exact if_pos rfl)
          clear hd hR hB
          go_wp2_with fail
          refine bodyPost_ret (v := .agg #[.int .i64 p1, .int .i64 0, .int .i64 p3]) (by simp [results, Tryd.results27, go_sem, k0, k1, k2]) rfl ⟨by rw [HRP.out], ?_⟩
          (repeat' (first | (with_reducible exact G.refl _) | (with_reducible assumption) | (with_reducible refine G.drewN ?_ _) | (with_reducible refine G.drew ?_) | (with_reducible refine G.alloc ?_ _) | (with_reducible refine G.setCell ?_ (by first | (with_reducible exact Nat.le_refl _) | (simp; done) | (simp; omega) | omega) _) | (with_reducible refine G.trans ?_ (by assumption))))
        · have hb : (p2 == 0) = false := beq_false_of_ne hz
          replace hd : rS wt (l.drop (i + 1)) (if p2 = wt then (p1, p2, p3) else out) = R := by rw [← hd]; exact (if_neg hz).symm
          by_cases hw2 : p2 = wt
          · have hB2 := hB.set (p1, p2, p3)
            rw [if_pos hw2] at hd
            rw [hw] at hw2
            subst hw2
            have HD := Lib.hid hd
            clear hd hR hB
            go_wp2_with fail
            go_roundg (l.length - (i + 1))
            case measure => have := HGK.out; omega
            case rel => exact ⟨i + 1, (p1, _, p3), by go_num, rfl, by omega, HD, hB2, ((hK.trans (kx_set _ _ _ _ _)).trans (kx_set _ _ _ _ _)).trans (kx_set _ _ _ _ _)⟩
          · have hb2 : (p2 == wt) = false := beq_false_of_ne hw2
            rw [if_neg hw2] at hd
            rw [hw] at hb2
            have HD := Lib.hid hd
            clear hd hR
            go_wp2_with fail
            go_roundg (l.length - (i + 1))
            case measure => have := HGK.out; omega
            case rel => exact ⟨i + 1, out, by go_num, rfl, by omega, HD, hB, hK⟩
      · obtain rfl : i = l.length := by omega
        have hd := hR.out
        rw [List.drop_length] at hd
        have HRP := Lib.hid (show R = out from hd.symm)
        clear hd hR hB tl tf
        obtain ⟨p1, p2, p3⟩ := out
        dsimp only at q0 q1 q2
        go_wp2_with fail
        refine bodyPost_ret (v := .agg #[.int .i64 p1, .int .i64 p2, .int .i64 p3]) (by simp [results, Tryd.results27, go_sem, k0, k1, k2]) rfl ⟨by rw [HRP.out], ?_⟩
        (repeat' (first | (with_reducible exact G.refl _) | (with_reducible assumption) | (with_reducible refine G.drewN ?_ _) | (with_reducible refine G.drew ?_) | (with_reducible refine G.alloc ?_ _) | (with_reducible refine G.setCell ?_ (by first | (with_reducible exact Nat.le_refl _) | (simp; done) | (simp; omega) | omega) _) | (with_reducible refine G.trans ?_ (by assumption))))
end Go.Proofs.YtfmjjbcmgkhgaaaDoor
