import Derived.Test.YtdiokagnpiiijaaDoorTonic
/-! The reference's signature of a key with a tonic. -/
namespace Go.Proofs.YtdiokagnpiiijaaDoor
open Go.RowKit
attribute [local go_sem] World.cell?_alloc_some

theorem pl_iff {s a n : Int} (h : Cl s a) : (tS n = s ∧ tA n = a) ↔ pl s a = n :=
  ⟨fun ⟨e1, e2⟩ => by rw [← e1, ← e2]; exact pl_t, fun e => ⟨(t_of_pl h.1.1 h.1.2 e).1.symm, (t_of_pl h.1.1 h.1.2 e).2.symm⟩⟩

set_option maxHeartbeats 3200000 in
theorem rOf_out (s a : Int) (m : Bool) (w : World) (h : ¬ Cl s a) :
    Calls Tryd.prog 23 #[.int .i64 s, .int .i64 a, .bool m] w fun e w' => e = .returned (.tuple #[.int .i64 0, .int .i64 18]) ∧ w = w' := by
  unfold Cl at h
  by_cases c1 : s < 0
  · clear h
    go_enter Tryd.func23, Tryd.ntmps23
    go_wp2_with fail
    go_returns
    exact ⟨rfl, rfl⟩
  by_cases c2 : 6 < s
  · clear h
    go_enter Tryd.func23, Tryd.ntmps23
    go_wp2_with fail
    go_returns
    exact ⟨rfl, rfl⟩
  by_cases c3 : a < -2
  · clear h
    go_enter Tryd.func23, Tryd.ntmps23
    go_wp2_with fail
    go_returns
    exact ⟨rfl, rfl⟩
  · have c4 : 2 < a := by omega
    clear h
    go_enter Tryd.func23, Tryd.ntmps23
    go_wp2_with fail
    go_returns
    exact ⟨rfl, rfl⟩

set_option maxRecDepth 20000 in
set_option maxHeartbeats 3200000 in
theorem rOf_in (s a : Int) (m : Bool) (w : World) (h : Cl s a) :
    Calls Tryd.prog 23 #[.int .i64 s, .int .i64 a, .bool m] w fun e w' => e = .returned (.tuple #[.int .i64 (ofN s a m), .int .i64 (ofE s a m)]) ∧ G w w' := by
  have HC := Lib.hid h
  obtain ⟨⟨s0, s1⟩, a0, a1⟩ := h
  obtain ⟨R, hR⟩ : ∃ z : Value, Hid (z = .tuple #[.int .i64 (ofN s a m), .int .i64 (ofE s a m)]) := ⟨_, rfl⟩
  rw [← hR.out]
  go_enter Tryd.func23, Tryd.ntmps23
  go_wp2_with fail
  go_loopg [8] 15 (fun g x wr => ∃ k : Int, x = .int .i64 k ∧ g = (8 - k).toNat ∧ -7 ≤ k ∧ k ≤ 8 ∧ Hid (∀ j, -7 ≤ j → j < k → pl s a ≠ j + mi m) ∧ G w wr)
  case atStart => exact ⟨-7, rfl, by decide, by omega, by omega, Lib.hid (fun j p q => by omega), G.refl _⟩
  case round =>
    obtain ⟨k, rfl, hg, k0, k1, hno, hG⟩ := hrel
    have HG := Lib.hid hg
    clear hg
    by_cases k8 : k = 8
    · subst k8
      have HR := Lib.hid (show R = .tuple #[.int .i64 0, .int .i64 2] by
        have c : ¬ Sg (pl s a - mi m) := fun c => hno.out (pl s a - mi m) c.1 (by have := c.2; omega) (by omega)
        rw [hR.out]; unfold ofN ofE
        rw [if_neg (fun k => c k.2), if_pos HC.out, ck_bad c])
      go_wp2_with fail
      go_returns
      refine ⟨?_, by (repeat' (first | (with_reducible exact G.refl _) | (with_reducible assumption) | (with_reducible refine G.drewN ?_ _) | (with_reducible refine G.drew ?_) | (with_reducible refine G.alloc ?_ _) | (with_reducible refine G.setCell ?_ (by first | (with_reducible exact Nat.le_refl _) | (simp; done) | (simp; omega) | omega) _) | (with_reducible refine G.trans ?_ (by assumption))))⟩
      rw [HR.out]; rfl
    · have k7 : k ≤ 7 := by omega
      have q := IntWalk.i64_in (k + 1) (by omega)
      by_cases hm : pl s a = k + mi m
      · have HR := Lib.hid (show R = .tuple #[.int .i64 k, .int .i64 0] by
          have e : pl s a - mi m = k := by omega
          have c : Sg k := ⟨k0, k7⟩
          rw [hR.out]; unfold ofN ofE
          rw [e, if_pos ⟨HC.out, c⟩, if_pos HC.out, ck_ok c])
        obtain ⟨e1, e2⟩ := (pl_iff HC.out).2 hm
        have E := Lib.hid (And.intro e1 e2)
        clear hm e1 e2
        go_wp2_with fail
        refine (rTonic_any k m _ ⟨k0, k7⟩).mono ?_
        rintro e w1 ⟨rfl, hG2⟩
        rw [E.out.1, E.out.2]
        go_wp2_with fail
        go_returns
        refine ⟨?_, by (repeat' (first | (with_reducible exact G.refl _) | (with_reducible assumption) | (with_reducible refine G.drewN ?_ _) | (with_reducible refine G.drew ?_) | (with_reducible refine G.alloc ?_ _) | (with_reducible refine G.setCell ?_ (by first | (with_reducible exact Nat.le_refl _) | (simp; done) | (simp; omega) | omega) _) | (with_reducible refine G.trans ?_ (by assumption))))⟩
        rw [HR.out]; rfl
      · have HNO := Lib.hid (show ∀ j, -7 ≤ j → j < k + 1 → pl s a ≠ j + mi m by
          intro j p r
          by_cases e : j = k
          · rw [e]; exact hm
          · exact hno.out j p (by omega))
        have hx : ¬ (tS (k + mi m) = s ∧ tA (k + mi m) = a) := fun e => hm ((pl_iff HC.out).1 e)
        obtain ⟨x, X⟩ : ∃ z : Int, Hid (z = tS (k + mi m)) := ⟨_, rfl⟩
        obtain ⟨y, Y⟩ : ∃ z : Int, Hid (z = tA (k + mi m)) := ⟨_, rfl⟩
        rw [← X.out, ← Y.out] at hx
        clear hm
        by_cases ex : x = s
        · have ey : (y == a) = false := beq_false_of_ne (fun e => hx ⟨ex, e⟩)
          have ex' : (x == s) = true := by rw [ex]; simp
          clear hx ex
          go_wp2_with fail
          refine (rTonic_any k m _ ⟨k0, k7⟩).mono ?_
          rintro e w1 ⟨rfl, hG2⟩
          rw [← X.out, ← Y.out]
          go_wp2_with fail
          go_roundg ((8 - (k + 1)).toNat)
          case measure => have := HG.out; omega
          case rel => exact ⟨k + 1, rfl, rfl, by omega, by omega, HNO, by (repeat' (first | (with_reducible exact G.refl _) | (with_reducible assumption) | (with_reducible refine G.drewN ?_ _) | (with_reducible refine G.drew ?_) | (with_reducible refine G.alloc ?_ _) | (with_reducible refine G.setCell ?_ (by first | (with_reducible exact Nat.le_refl _) | (simp; done) | (simp; omega) | omega) _) | (with_reducible refine G.trans ?_ (by assumption))))⟩
        · have ex' : (x == s) = false := beq_false_of_ne ex
          clear hx ex
          go_wp2_with fail
          refine (rTonic_any k m _ ⟨k0, k7⟩).mono ?_
          rintro e w1 ⟨rfl, hG2⟩
          rw [← X.out, ← Y.out]
          go_wp2_with fail
          go_roundg ((8 - (k + 1)).toNat)
          case measure => have := HG.out; omega
          case rel => exact ⟨k + 1, rfl, rfl, by omega, by omega, HNO, by (repeat' (first | (with_reducible exact G.refl _) | (with_reducible assumption) | (with_reducible refine G.drewN ?_ _) | (with_reducible refine G.drew ?_) | (with_reducible refine G.alloc ?_ _) | (with_reducible refine G.setCell ?_ (by first | (with_reducible exact Nat.le_refl _) | (simp; done) | (simp; omega) | omega) _) | (with_reducible refine G.trans ?_ (by assumption))))⟩

theorem rOf_any (s a : Int) (m : Bool) (w : World) :
    Calls Tryd.prog 23 #[.int .i64 s, .int .i64 a, .bool m] w fun e w' => e = .returned (.tuple #[.int .i64 (ofN s a m), .int .i64 (ofE s a m)]) ∧ G w w' := by
  by_cases h : Cl s a
  · exact rOf_in s a m w h
  · have e1 : ofN s a m = 0 := if_neg (fun k => h k.1)
    have e2 : ofE s a m = 18 := if_neg h
    rw [e1, e2]
    exact (rOf_out s a m w h).mono fun _ _ ⟨he, hw⟩ => ⟨he, hw ▸ G.refl _⟩
end Go.Proofs.YtdiokagnpiiijaaDoor
