import Derived.Test.YtabaiklagobimaaR3
/-! Tuplets: sums; equal lists. -/
namespace Go.Proofs.Ytabaiklagobimaa
open Go.RowKit
attribute [local go_sem] World.cell?_alloc_some

def sm (M : List Int) : Int := M.foldl (· + ·) 0
theorem sm_next {M : List Int} {i : Nat} {x : Int} (h : M[i]? = some x) : sm (M.take (i + 1)) = sm (M.take i) + x := by
  unfold sm
  rw [List.take_add_one, h, List.foldl_append]
  rfl
theorem lenV_bd {l : List Tu} (hF : Fit l) (e w : Int) : 0 ≤ lenV l e w ∧ lenV l e w ≤ 253671505920 := by
  obtain ⟨⟨n0, n1⟩, d0, d1⟩ := hF.all e
  unfold lenV
  split
  · rename_i hw
    split
    · have p1 : w * (prT l e).1 ≤ 7741440 * 32768 := Int.mul_le_mul hw.2 n1 (by omega) (by omega)
      have p2 : 0 ≤ w * (prT l e).1 := Int.mul_nonneg hw.1 (by omega)
      have p3 : 0 ≤ w * (prT l e).1 / (prT l e).2 := Int.ediv_nonneg p2 (by omega)
      have p4 : w * (prT l e).1 / (prT l e).2 ≤ w * (prT l e).1 := Int.ediv_le_self _ p2
      omega
    · omega
  · omega
theorem lens_bd {l : List Tu} (hF : Fit l) : ∀ (r : List Int) (e : Int), ∀ x ∈ lens l e r, 0 ≤ x ∧ x ≤ 253671505920
  | [], _, x, h => by cases h
  | w :: r, e, x, h => by
    rcases List.mem_cons.1 h with rfl | h
    · exact lenV_bd hF e w
    · exact lens_bd hF r (e + 1) x h
theorem sm_bd {M : List Int} (h : ∀ x ∈ M, 0 ≤ x ∧ x ≤ 253671505920) : ∀ i : Nat, i ≤ M.length → 0 ≤ sm (M.take i) ∧ sm (M.take i) ≤ 253671505920 * i
  | 0, _ => by simp [sm]
  | i + 1, hi => by
    have hx : M[i]? = some (M[i]'(by omega)) := List.getElem?_eq_getElem (by omega)
    rw [sm_next hx]
    have h1 := sm_bd h i (by omega)
    have h2 := h _ (List.mem_of_getElem? hx)
    omega
def sumT (l : List Tu) (r : List Int) : Int := if lensT l r = 0 then sm (lens l 0 r) else 0

set_option maxRecDepth 100000 in
set_option maxHeartbeats 6400000 in
theorem tSum_any (a b : Option Addr) (l : List Tu) (r : List Int) (n c m d : Nat) (w : World) (hn : l.length = n) (hm : r.length = m) (hm2 : m ≤ 1000) (h1 : TusAt w a l) (hc : CB l) (h2 : IntsAt w b r) :
    Calls Try.prog 26 #[.slice a n c, .slice b m d] w fun e w' => e = .returned (.tuple #[.int .i64 (sumT l r), .int .i64 (lensT l r)]) ∧ G w w' := by
  have H1 := Lib.hid (And.intro h1 (And.intro hc h2))
  have HN := Lib.hid (And.intro hn (And.intro hm hm2))
  obtain ⟨S, hS⟩ : ∃ z : Int, Hid (z = sumT l r) := ⟨_, rfl⟩
  obtain ⟨E, hE⟩ : ∃ z : Int, Hid (lensT l r = z) := ⟨_, rfl⟩
  rw [← hS.out, hE.out]
  clear h1 hc h2 hn hm hm2
  by_cases hk : lensT l r = 0
  · have HE := Lib.hid (show E = 0 by rw [← hE.out]; exact hk)
    have HS := Lib.hid (show S = sm (lens l 0 r) by rw [hS.out]; exact if_pos hk)
    have HF : Fit l := by
      unfold lensT at hk
      by_cases h : ckT r.length l = 0
      · exact ckT_fit h
      · rw [if_neg h] at hk; exact absurd hk h
    have HBD := Lib.hid (lens_bd HF r 0)
    have HK := Lib.hid hk
    clear hk HF
    go_enter Try.func26, Try.ntmps26
    go_wp2_with fail
    refine (tLengths_any a b l r n c m d _ HN.out.1 HN.out.2.1 HN.out.2.2 (H1.out.1.later (by (repeat' (first | (with_reducible exact G.refl _) | (with_reducible assumption) | (with_reducible refine G.drewN ?_ _) | (with_reducible refine G.drew ?_) | (with_reducible refine G.alloc ?_ _) | (with_reducible refine G.setCell ?_ (by first | (with_reducible exact Nat.le_refl _) | (simp; done) | (simp; omega) | omega) _) | (with_reducible refine G.trans ?_ (by assumption)))))) H1.out.2.1 (H1.out.2.2.later (by (repeat' (first | (with_reducible exact G.refl _) | (with_reducible assumption) | (with_reducible refine G.drewN ?_ _) | (with_reducible refine G.drew ?_) | (with_reducible refine G.alloc ?_ _) | (with_reducible refine G.setCell ?_ (by first | (with_reducible exact Nat.le_refl _) | (simp; done) | (simp; omega) | omega) _) | (with_reducible refine G.trans ?_ (by assumption))))))).mono ?_
    rintro e w1 ⟨v, rfl, hR, hG⟩
    have g1 : G w w1 := G.trans (by (repeat' (first | (with_reducible exact G.refl _) | (with_reducible refine G.drewN ?_ _) | (with_reducible refine G.drew ?_) | (with_reducible refine G.alloc ?_ _)))) hG
    have hQ := hR.q
    unfold LensQ at hQ
    rw [if_pos HK.out] at hQ
    obtain ⟨pa, pc, rfl, hI⟩ := hQ
    rw [hE.out]
    have HI := Lib.hid hI
    have HLL := Lib.hid (show (lens l 0 r).length = m by rw [lens_len]; exact HN.out.2.1)
    obtain ⟨M, hM⟩ : ∃ z, Hid (z = lens l 0 r) := ⟨_, rfl⟩
    rw [← hM.out] at HLL HI HBD HS
    rw [HN.out.2.1]
    clear hI hR
    go_wp2_with fail
    go_loopg [8, 19] m (fun q x y wr => ∃ i : Nat, x = .int .i64 (sm (M.take i)) ∧ y = .int .i64 i ∧ q = m - i ∧ i ≤ m ∧ G w1 wr)
    case atStart => exact ⟨0, by simp [sm], rfl, by omega, by omega, by (repeat' (first | (with_reducible exact G.refl _) | (with_reducible assumption) | (with_reducible refine G.drewN ?_ _) | (with_reducible refine G.drew ?_) | (with_reducible refine G.alloc ?_ _) | (with_reducible refine G.setCell ?_ (by first | (with_reducible exact Nat.le_refl _) | (simp; done) | (simp; omega) | omega) _) | (with_reducible refine G.trans ?_ (by assumption))))⟩
    case round =>
      obtain ⟨i, rfl, rfl, hq, hi, gr⟩ := hrel
      have HQ := Lib.hid hq
      clear hq
      by_cases hin : i < m
      · obtain ⟨x, hx⟩ : ∃ z, M[i]? = some z := ⟨M[i]'(by have := HLL.out; omega), List.getElem?_eq_getElem (by have := HLL.out; omega)⟩
        rcases HI.out with hz | ⟨b0, of, rfl, fc⟩
        · rw [hz] at hx; simp at hx
        have x0 := gr.at (fc i _ hx)
        have s1 := sm_bd HBD.out (i + 1) (by have := HLL.out; omega)
        rw [sm_next hx] at s1
        have HSN := Lib.hid (sm_next hx)
        obtain ⟨Y, hY⟩ : ∃ z : Int, Hid (sm (M.take i) = z) := ⟨_, rfl⟩
        rw [hY.out] at s1 HSN ⊢
        have b1 : (0 : Int) ≤ (i : Int) := by omega
        have b2 : (i : Int) < (m : Int) := by omega
        have q1 := IntWalk.i64_in ((i : Int) + 1) (by have := HN.out.2.2; omega)
        have q2 := IntWalk.i64_in (Y + x) (by have := HN.out.2.2; omega)
        clear fc hx s1
        go_wp2_with fail
        go_roundg (m - (i + 1))
        case measure => have := HQ.out; omega
        case rel => exact ⟨i + 1, by rw [HSN.out]; first | done | rfl | go_num, by go_num, rfl, by omega, by (repeat' (first | (with_reducible exact G.refl _) | (with_reducible assumption) | (with_reducible refine G.drewN ?_ _) | (with_reducible refine G.drew ?_) | (with_reducible refine G.alloc ?_ _) | (with_reducible refine G.setCell ?_ (by first | (with_reducible exact Nat.le_refl _) | (simp; done) | (simp; omega) | omega) _) | (with_reducible refine G.trans ?_ (by assumption))))⟩
      · have hii : i = m := by omega
        subst hii
        have HSS := Lib.hid (show sm (M.take i) = S by rw [HS.out, List.take_of_length_le (by have := HLL.out; omega)])
        rw [HSS.out]
        go_wp2_with fail
        go_returns
        exact ⟨rfl, by (repeat' (first | (with_reducible exact G.refl _) | (with_reducible assumption) | (with_reducible refine G.drewN ?_ _) | (with_reducible refine G.drew ?_) | (with_reducible refine G.alloc ?_ _) | (with_reducible refine G.setCell ?_ (by first | (with_reducible exact Nat.le_refl _) | (simp; done) | (simp; omega) | omega) _) | (with_reducible refine G.trans ?_ (by assumption))))⟩
  · have HS := Lib.hid (show S = 0 by rw [hS.out]; exact if_neg hk)
    have HK := Lib.hid hk
    clear hk
    go_enter Try.func26, Try.ntmps26
    go_wp2_with fail
    refine (tLengths_any a b l r n c m d _ HN.out.1 HN.out.2.1 HN.out.2.2 (H1.out.1.later (by (repeat' (first | (with_reducible exact G.refl _) | (with_reducible assumption) | (with_reducible refine G.drewN ?_ _) | (with_reducible refine G.drew ?_) | (with_reducible refine G.alloc ?_ _) | (with_reducible refine G.setCell ?_ (by first | (with_reducible exact Nat.le_refl _) | (simp; done) | (simp; omega) | omega) _) | (with_reducible refine G.trans ?_ (by assumption)))))) H1.out.2.1 (H1.out.2.2.later (by (repeat' (first | (with_reducible exact G.refl _) | (with_reducible assumption) | (with_reducible refine G.drewN ?_ _) | (with_reducible refine G.drew ?_) | (with_reducible refine G.alloc ?_ _) | (with_reducible refine G.setCell ?_ (by first | (with_reducible exact Nat.le_refl _) | (simp; done) | (simp; omega) | omega) _) | (with_reducible refine G.trans ?_ (by assumption))))))).mono ?_
    rintro e w1 ⟨v, rfl, hR, hG⟩
    have g1 : G w w1 := G.trans (by (repeat' (first | (with_reducible exact G.refl _) | (with_reducible refine G.drewN ?_ _) | (with_reducible refine G.drew ?_) | (with_reducible refine G.alloc ?_ _)))) hG
    unfold LensR at hR
    rw [if_neg HK.out] at hR
    subst hR
    rw [hE.out]
    go_wp2_with fail
    go_loopg [8, 19] 0 (fun q x y wr => x = .int .i64 0 ∧ y = .int .i64 0 ∧ q = 0 ∧ G w1 wr)
    case atStart => exact ⟨rfl, rfl, rfl, by (repeat' (first | (with_reducible exact G.refl _) | (with_reducible assumption) | (with_reducible refine G.drewN ?_ _) | (with_reducible refine G.drew ?_) | (with_reducible refine G.alloc ?_ _) | (with_reducible refine G.setCell ?_ (by first | (with_reducible exact Nat.le_refl _) | (simp; done) | (simp; omega) | omega) _) | (with_reducible refine G.trans ?_ (by assumption))))⟩
    case round =>
      obtain ⟨rfl, rfl, rfl, gr⟩ := hrel
      go_wp2_with fail
      go_returns
      exact ⟨by rw [HS.out]; first | done | rfl, by (repeat' (first | (with_reducible exact G.refl _) | (with_reducible assumption) | (with_reducible refine G.drewN ?_ _) | (with_reducible refine G.drew ?_) | (with_reducible refine G.alloc ?_ _) | (with_reducible refine G.setCell ?_ (by first | (with_reducible exact Nat.le_refl _) | (simp; done) | (simp; omega) | omega) _) | (with_reducible refine G.trans ?_ (by assumption))))⟩

set_option maxRecDepth 100000 in
set_option maxHeartbeats 6400000 in
theorem numbers_same (a b : Option Addr) (L : List Int) (n c d : Nat) (w : World) (hn : L.length = n) (hn2 : n ≤ 1000) (h1 : IntsAt w a L) (h2 : IntsAt w b L) :
    Calls Try.prog 27 #[.slice a n c, .slice b n d] w fun e w' => e = .returned (.bool true) ∧ G w w' := by
  have H1 := Lib.hid h1
  have H2 := Lib.hid h2
  have HN := Lib.hid (And.intro hn hn2)
  clear h1 h2 hn hn2
  go_enter Try.func27, Try.ntmps27
  go_wp2_with fail
  go_loopg [5] n (fun q x wr => ∃ i : Nat, x = .int .i64 i ∧ q = n - i ∧ i ≤ n ∧ G w wr)
  case atStart => exact ⟨0, rfl, by omega, by omega, by (repeat' (first | (with_reducible exact G.refl _) | (with_reducible assumption) | (with_reducible refine G.drewN ?_ _) | (with_reducible refine G.drew ?_) | (with_reducible refine G.alloc ?_ _) | (with_reducible refine G.setCell ?_ (by first | (with_reducible exact Nat.le_refl _) | (simp; done) | (simp; omega) | omega) _) | (with_reducible refine G.trans ?_ (by assumption))))⟩
  case round =>
    obtain ⟨i, rfl, hq, hi, gr⟩ := hrel
    have HQ := Lib.hid hq
    clear hq
    by_cases hin : i < n
    · obtain ⟨x, hx⟩ : ∃ z, L[i]? = some z := ⟨L[i]'(by have := HN.out; omega), List.getElem?_eq_getElem (by have := HN.out; omega)⟩
      rcases H1.out with hz | ⟨b0, o0, rfl, f0⟩
      · rw [hz] at hx; simp at hx
      rcases H2.out with hz | ⟨b2, o2, rfl, f2⟩
      · rw [hz] at hx; simp at hx
      have x0 := gr.at (f0 i _ hx)
      have x2 := gr.at (f2 i _ hx)
      have b1 : (0 : Int) ≤ (i : Int) := by omega
      have b2 : (i : Int) < (n : Int) := by omega
      have q1 := IntWalk.i64_in ((i : Int) + 1) (by have := HN.out.2; omega)
      clear f0 f2 hx
      go_wp2_with fail
      go_big_region
      all_goals
        go_wp2_with fail
        go_roundg (n - (i + 1))
        case measure => have := HQ.out; omega
        case rel => exact ⟨i + 1, by go_num, rfl, by omega, by (repeat' (first | (with_reducible exact G.refl _) | (with_reducible assumption) | (with_reducible refine G.drewN ?_ _) | (with_reducible refine G.drew ?_) | (with_reducible refine G.alloc ?_ _) | (with_reducible refine G.setCell ?_ (by first | (with_reducible exact Nat.le_refl _) | (simp; done) | (simp; omega) | omega) _) | (with_reducible refine G.trans ?_ (by assumption))))⟩
    · have hii : i = n := by omega
      subst hii
      go_wp2_with fail
      go_ret
      exact ⟨rfl, by (repeat' (first | (with_reducible exact G.refl _) | (with_reducible assumption) | (with_reducible refine G.drewN ?_ _) | (with_reducible refine G.drew ?_) | (with_reducible refine G.alloc ?_ _) | (with_reducible refine G.setCell ?_ (by first | (with_reducible exact Nat.le_refl _) | (simp; done) | (simp; omega) | omega) _) | (with_reducible refine G.trans ?_ (by assumption))))⟩
theorem numbers_nil (w : World) : Calls Try.prog 27 #[.slice none 0 0, .slice none 0 0] w fun e w' => e = .returned (.bool true) ∧ G w w' :=
  numbers_same none none [] 0 0 0 w rfl (by decide) (.inl rfl) (.inl rfl)
end Go.Proofs.Ytabaiklagobimaa
