import Derived.Test.YtabaiklagobimaaT4
/-! Tuplets: the fraction of an event; lengths. -/
namespace Go.Proofs.Ytabaiklagobimaa
open Go.RowKit
attribute [local go_sem] World.cell?_alloc_some

/-- tuplets under which the products are small -/
structure Fit (l : List Tu) : Prop where
  one : ∀ t, t ∈ l → 0 ≤ t.f ∧ 0 ≤ t.c ∧ t.f + t.c ≤ 128 ∧ Rt t.a ∧ Rt t.n
  pr : ∀ e i, (1 ≤ (prT (l.take i) e).1 ∧ (prT (l.take i) e).1 ≤ 32768) ∧ (1 ≤ (prT (l.take i) e).2 ∧ (prT (l.take i) e).2 ≤ 32768)
theorem ckT_fit {ev : Int} {l : List Tu} (h : ckT ev l = 0) : Fit l :=
  ⟨fun t ht => by
    obtain ⟨⟨_, h2⟩, _, _, hr, _⟩ := ckT_ok h
    have k := hr t ht
    unfold InR at k
    exact ⟨k.2.1, by omega, by omega, k.2.2.2.1, k.2.2.2.2.1⟩, fun e i => pr_ok h e i⟩
theorem Fit.all {l : List Tu} (h : Fit l) (e : Int) : (1 ≤ (prT l e).1 ∧ (prT l e).1 ≤ 32768) ∧ (1 ≤ (prT l e).2 ∧ (prT l e).2 ≤ 32768) := by
  have := h.pr e l.length
  rwa [List.take_length] at this

set_option maxRecDepth 100000 in
set_option maxHeartbeats 6400000 in
theorem product_any (a : Option Addr) (l : List Tu) (n c : Nat) (e : Int) (w : World) (hn : l.length = n) (hl : n ≤ 20) (h1 : TusAt w a l) (hF : Fit l) :
    Calls Try.prog 47 #[.slice a n c, .int .i64 e] w fun x w' => x = .returned (.tuple #[.int .i64 (prT l e).1, .int .i64 (prT l e).2]) ∧ G w w' := by
  subst hn
  have H1 := Lib.hid h1
  have HF := Lib.hid hF
  obtain ⟨A, hA⟩ : ∃ z : Int, Hid (z = (prT l e).1) := ⟨_, rfl⟩
  obtain ⟨B, hB⟩ : ∃ z : Int, Hid (z = (prT l e).2) := ⟨_, rfl⟩
  rw [← hA.out, ← hB.out]
  clear h1 hF
  go_enter Try.func47, Try.ntmps47
  go_wp2_with fail
  go_loopg [4, 5, 10] l.length (fun q x y z wr => ∃ (i : Nat) (N D : Int), x = .int .i64 N ∧ y = .int .i64 D ∧ z = .int .i64 i ∧ q = l.length - i ∧ i ≤ l.length ∧ Hid (prT (l.take i) e = (N, D)) ∧ G w wr)
  case atStart => exact ⟨0, 1, 1, rfl, rfl, rfl, by omega, by omega, Lib.hid rfl, by (repeat' (first | (with_reducible exact G.refl _) | (with_reducible assumption) | (with_reducible refine G.drewN ?_ _) | (with_reducible refine G.drew ?_) | (with_reducible refine G.alloc ?_ _) | (with_reducible refine G.setCell ?_ (by first | (with_reducible exact Nat.le_refl _) | (simp; done) | (simp; omega) | omega) _) | (with_reducible refine G.trans ?_ (by assumption))))⟩
  case round =>
    obtain ⟨i, N, D, rfl, rfl, rfl, hq, hi, hP, gr⟩ := hrel
    have HQ := Lib.hid hq
    clear hq
    by_cases hin : i < l.length
    · obtain ⟨⟨f, cc, aa, nn⟩, hp⟩ : ∃ z, l[i]? = some z := ⟨l[i], List.getElem?_eq_getElem hin⟩
      rcases H1.out with hz | ⟨b0, of, rfl, fc⟩
      · rw [hz] at hin; exact absurd hin (by simp)
      obtain ⟨x0, x1, x2, x3⟩ := (fc i _ hp).later gr
      dsimp only at x0 x1 x2 x3
      have hone := HF.out.one _ (List.mem_of_getElem? hp)
      have HO := Lib.hid (show (-9223372036854775808 ≤ f + cc ∧ f + cc ≤ 9223372036854775807) by have := hone.1; have := hone.2.1; have := hone.2.2.1; dsimp only at *; omega)
      have hpr := HF.out.pr e i
      rw [hP.out] at hpr
      obtain ⟨⟨n0, n1⟩, d0, d1⟩ := hpr
      obtain ⟨⟨a0, a1⟩, m0, m1⟩ := hone.2.2.2
      dsimp only at n0 n1 d0 d1 a0 a1 m0 m1
      have HNX := Lib.hid (show prT (l.take (i + 1)) e = if InT ⟨f, cc, aa, nn⟩ e then (N * nn, D * aa) else (N, D) by rw [pr_next e hp, hP.out]; rfl)
      have b1 : (0 : Int) ≤ (i : Int) := by omega
      have b2 : (i : Int) < (l.length : Int) := by omega
      have q1 := IntWalk.i64_in ((i : Int) + 1) (by omega)
      have p1 : N * nn ≤ 32768 * 32 := Int.mul_le_mul n1 m1 (by omega) (by omega)
      have p2 : 0 ≤ N * nn := Int.mul_nonneg (by omega) (by omega)
      have p3 : D * aa ≤ 32768 * 32 := Int.mul_le_mul d1 a1 (by omega) (by omega)
      have p4 : 0 ≤ D * aa := Int.mul_nonneg (by omega) (by omega)
      have q2 := IntWalk.i64_in (N * nn) (by omega)
      have q3 := IntWalk.i64_in (D * aa) (by omega)
      clear fc hone hp n0 n1 d0 d1 a0 a1 m0 m1 p1 p2 p3 p4
      by_cases hit : InT ⟨f, cc, aa, nn⟩ e
      · have HN := Lib.hid (show prT (l.take (i + 1)) e = (N * nn, D * aa) by rw [HNX.out, if_pos hit])
        have HIT := Lib.hid hit
        clear hit
        go_wp2_with fail
        refine (contains_any _ _ _ _ _ _ HO.out.1 HO.out.2).mono ?_
        rintro x w2 ⟨rfl, hG2⟩
        obtain ⟨z0, z1, z2, z3⟩ := four_at rfl hG2
        rw [decide_eq_true HIT.out]
        go_wp2_with fail
        go_big_region
        all_goals
          go_wp2_with fail
          go_roundg (l.length - (i + 1))
          case measure => have := HQ.out; omega
          case rel => exact ⟨i + 1, N * nn, D * aa, by go_num, by go_num, by go_num, rfl, by omega, HN, by (repeat' (first | (with_reducible exact G.refl _) | (with_reducible assumption) | (with_reducible refine G.drewN ?_ _) | (with_reducible refine G.drew ?_) | (with_reducible refine G.alloc ?_ _) | (with_reducible refine G.setCell ?_ (by first | (with_reducible exact Nat.le_refl _) | (simp; done) | (simp; omega) | omega) _) | (with_reducible refine G.trans ?_ (by assumption))))⟩
      · have HN := Lib.hid (show prT (l.take (i + 1)) e = (N, D) by rw [HNX.out, if_neg hit])
        have HIT := Lib.hid hit
        clear hit
        go_wp2_with fail
        refine (contains_any _ _ _ _ _ _ HO.out.1 HO.out.2).mono ?_
        rintro x w2 ⟨rfl, hG2⟩
        rw [decide_eq_false HIT.out]
        go_wp2_with fail
        go_roundg (l.length - (i + 1))
        case measure => have := HQ.out; omega
        case rel => exact ⟨i + 1, N, D, rfl, rfl, by go_num, rfl, by omega, HN, by (repeat' (first | (with_reducible exact G.refl _) | (with_reducible assumption) | (with_reducible refine G.drewN ?_ _) | (with_reducible refine G.drew ?_) | (with_reducible refine G.alloc ?_ _) | (with_reducible refine G.setCell ?_ (by first | (with_reducible exact Nat.le_refl _) | (simp; done) | (simp; omega) | omega) _) | (with_reducible refine G.trans ?_ (by assumption))))⟩
    · have hii : i = l.length := by omega
      subst hii
      rw [List.take_length] at hP
      have HA := Lib.hid (show A = N by rw [hA.out, hP.out])
      have HB := Lib.hid (show B = D by rw [hB.out, hP.out])
      go_wp2_with fail
      go_returns
      exact ⟨by rw [HA.out, HB.out]; first | done | rfl, by (repeat' (first | (with_reducible exact G.refl _) | (with_reducible assumption) | (with_reducible refine G.drewN ?_ _) | (with_reducible refine G.drew ?_) | (with_reducible refine G.alloc ?_ _) | (with_reducible refine G.setCell ?_ (by first | (with_reducible exact Nat.le_refl _) | (simp; done) | (simp; omega) | omega) _) | (with_reducible refine G.trans ?_ (by assumption))))⟩
end Go.Proofs.Ytabaiklagobimaa
