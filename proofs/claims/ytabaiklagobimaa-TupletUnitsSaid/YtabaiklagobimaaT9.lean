import Derived.Test.YtabaiklagobimaaR4
/-! Tuplets: the length of one event. -/
namespace Go.Proofs.Ytabaiklagobimaa
open Go.RowKit
attribute [local go_sem] World.cell?_alloc_some

def lnE (l : List Tu) (e x : Int) : Int := if ckT 128 l = 0 then (if 0 ≤ e ∧ e < 128 then lenE l e x else 2) else ckT 128 l
def lnV (l : List Tu) (e x : Int) : Int := if ckT 128 l = 0 then (if 0 ≤ e ∧ e < 128 then lenV l e x else 0) else 0
set_option maxRecDepth 100000 in
set_option maxHeartbeats 6400000 in
theorem tLength_any (a : Option Addr) (l : List Tu) (n c : Nat) (e x : Int) (w : World) (hn : l.length = n) (hl : n ≤ 20) (h1 : TusAt w a l) (hc : CB l) :
    Calls Try.prog 28 #[.slice a n c, .int .i64 e, .int .i64 x] w fun r w' => r = .returned (.tuple #[.int .i64 (lnV l e x), .int .i64 (lnE l e x)]) ∧ G w w' := by
  obtain ⟨V, hV⟩ : ∃ z : Int, Hid (z = lnV l e x) := ⟨_, rfl⟩
  obtain ⟨E, hE⟩ : ∃ z : Int, Hid (z = lnE l e x) := ⟨_, rfl⟩
  rw [← hV.out, ← hE.out]
  have H1 := Lib.hid h1
  have HC := Lib.hid hc
  clear h1 hc
  by_cases hk : ckT 128 l = 0
  rotate_left
  · have HV := Lib.hid (show V = 0 by rw [hV.out]; exact if_neg hk)
    have HE := Lib.hid (show E = ckT 128 l by rw [hE.out]; exact if_neg hk)
    have HNE : E ≠ 0 := by rw [HE.out]; exact hk
    have e3 : (E == 0) = false := beq_false_of_ne HNE
    have e4 : (E != 0) = true := by simp [bne, e3]
    clear HNE hk
    go_enter Try.func28, Try.ntmps28
    go_wp2_with fail
    refine (tCheck_any a l n c _ _ hn (H1.out.later (by (repeat' (first | (with_reducible exact G.refl _) | (with_reducible assumption) | (with_reducible refine G.drewN ?_ _) | (with_reducible refine G.drew ?_) | (with_reducible refine G.alloc ?_ _) | (with_reducible refine G.setCell ?_ (by first | (with_reducible exact Nat.le_refl _) | (simp; done) | (simp; omega) | omega) _) | (with_reducible refine G.trans ?_ (by assumption)))))) HC.out).mono ?_
    rintro r w1 ⟨rfl, hG⟩
    rw [← HE.out]
    go_wp2_with fail
    go_returns
    exact ⟨by rw [HV.out]; first | done | rfl, by (repeat' (first | (with_reducible exact G.refl _) | (with_reducible assumption) | (with_reducible refine G.drewN ?_ _) | (with_reducible refine G.drew ?_) | (with_reducible refine G.alloc ?_ _) | (with_reducible refine G.setCell ?_ (by first | (with_reducible exact Nat.le_refl _) | (simp; done) | (simp; omega) | omega) _) | (with_reducible refine G.trans ?_ (by assumption))))⟩
  have HK := Lib.hid hk
  have HF := Lib.hid (ckT_fit hk)
  have HVE := Lib.hid (show V = (if 0 ≤ e ∧ e < 128 then lenV l e x else 0) ∧ E = (if 0 ≤ e ∧ e < 128 then lenE l e x else 2) from ⟨hV.out.trans (if_pos hk), hE.out.trans (if_pos hk)⟩)
  clear hk
  by_cases k1 : e < 0
  · have HV := Lib.hid (show V = 0 ∧ E = 2 by rw [HVE.out.1, HVE.out.2, if_neg (by omega), if_neg (by omega)]; exact ⟨rfl, rfl⟩)
    go_enter Try.func28, Try.ntmps28
    go_wp2_with fail
    refine (tCheck_any a l n c _ _ hn (H1.out.later (by (repeat' (first | (with_reducible exact G.refl _) | (with_reducible assumption) | (with_reducible refine G.drewN ?_ _) | (with_reducible refine G.drew ?_) | (with_reducible refine G.alloc ?_ _) | (with_reducible refine G.setCell ?_ (by first | (with_reducible exact Nat.le_refl _) | (simp; done) | (simp; omega) | omega) _) | (with_reducible refine G.trans ?_ (by assumption)))))) HC.out).mono ?_
    rintro r w1 ⟨rfl, hG⟩
    rw [HK.out]
    go_wp2_with fail
    go_returns
    exact ⟨by rw [HV.out.1, HV.out.2]; first | done | rfl, by (repeat' (first | (with_reducible exact G.refl _) | (with_reducible assumption) | (with_reducible refine G.drewN ?_ _) | (with_reducible refine G.drew ?_) | (with_reducible refine G.alloc ?_ _) | (with_reducible refine G.setCell ?_ (by first | (with_reducible exact Nat.le_refl _) | (simp; done) | (simp; omega) | omega) _) | (with_reducible refine G.trans ?_ (by assumption))))⟩
  by_cases k2 : 128 ≤ e
  · have HV := Lib.hid (show V = 0 ∧ E = 2 by rw [HVE.out.1, HVE.out.2, if_neg (by omega), if_neg (by omega)]; exact ⟨rfl, rfl⟩)
    go_enter Try.func28, Try.ntmps28
    go_wp2_with fail
    refine (tCheck_any a l n c _ _ hn (H1.out.later (by (repeat' (first | (with_reducible exact G.refl _) | (with_reducible assumption) | (with_reducible refine G.drewN ?_ _) | (with_reducible refine G.drew ?_) | (with_reducible refine G.alloc ?_ _) | (with_reducible refine G.setCell ?_ (by first | (with_reducible exact Nat.le_refl _) | (simp; done) | (simp; omega) | omega) _) | (with_reducible refine G.trans ?_ (by assumption)))))) HC.out).mono ?_
    rintro r w1 ⟨rfl, hG⟩
    rw [HK.out]
    go_wp2_with fail
    go_returns
    exact ⟨by rw [HV.out.1, HV.out.2]; first | done | rfl, by (repeat' (first | (with_reducible exact G.refl _) | (with_reducible assumption) | (with_reducible refine G.drewN ?_ _) | (with_reducible refine G.drew ?_) | (with_reducible refine G.alloc ?_ _) | (with_reducible refine G.setCell ?_ (by first | (with_reducible exact Nat.le_refl _) | (simp; done) | (simp; omega) | omega) _) | (with_reducible refine G.trans ?_ (by assumption))))⟩
  have HV := Lib.hid (show lenV l e x = V ∧ lenE l e x = E by rw [HVE.out.1, HVE.out.2, if_pos (by omega), if_pos (by omega)]; exact ⟨rfl, rfl⟩)
  go_enter Try.func28, Try.ntmps28
  go_wp2_with fail
  refine (tCheck_any a l n c _ _ hn (H1.out.later (by (repeat' (first | (with_reducible exact G.refl _) | (with_reducible assumption) | (with_reducible refine G.drewN ?_ _) | (with_reducible refine G.drew ?_) | (with_reducible refine G.alloc ?_ _) | (with_reducible refine G.setCell ?_ (by first | (with_reducible exact Nat.le_refl _) | (simp; done) | (simp; omega) | omega) _) | (with_reducible refine G.trans ?_ (by assumption)))))) HC.out).mono ?_
  rintro r w1 ⟨rfl, hG⟩
  rw [HK.out]
  go_wp2_with fail
  refine (length_any a l n c _ _ _ hn hl (H1.out.later (by (repeat' (first | (with_reducible exact G.refl _) | (with_reducible assumption) | (with_reducible refine G.drewN ?_ _) | (with_reducible refine G.drew ?_) | (with_reducible refine G.alloc ?_ _) | (with_reducible refine G.setCell ?_ (by first | (with_reducible exact Nat.le_refl _) | (simp; done) | (simp; omega) | omega) _) | (with_reducible refine G.trans ?_ (by assumption)))))) HF.out).mono ?_
  rintro r w2 ⟨rfl, hG2⟩
  rw [HV.out.1, HV.out.2]
  go_wp2_with fail
  go_returns
  exact ⟨rfl, by (repeat' (first | (with_reducible exact G.refl _) | (with_reducible assumption) | (with_reducible refine G.drewN ?_ _) | (with_reducible refine G.drew ?_) | (with_reducible refine G.alloc ?_ _) | (with_reducible refine G.setCell ?_ (by first | (with_reducible exact Nat.le_refl _) | (simp; done) | (simp; omega) | omega) _) | (with_reducible refine G.trans ?_ (by assumption))))⟩
theorem filt_next {α : Type} {P : α → Bool} {l : List α} {i : Nat} {t : α} (h : l[i]? = some t) : (l.take (i + 1)).filter P = (l.take i).filter P ++ (if P t then [t] else []) := by
  rw [List.take_add_one, h, List.filter_append]
  congr 1
  cases hp : P t <;> simp [hp]
theorem cb_filter {l : List Tu} (P : Tu → Bool) (h : CB l) : CB (l.filter P) := fun t ht => h t (List.mem_filter.1 ht).1
/-- tuplets that don't contain the event don't matter -/
theorem own_ln {l : List Tu} {e x : Int} (h : ckT 128 l = 0) : lnV (l.filter (fun t => decide (InT t e))) e x = lnV l e x ∧ lnE (l.filter (fun t => decide (InT t e))) e x = lnE l e x := by
  have h2 := ckT_filter (fun t => decide (InT t e)) h
  unfold lnV lnE
  rw [if_pos h, if_pos h, if_pos h2, if_pos h2]
  unfold lenV lenE
  rw [prT_filter]
  exact ⟨rfl, rfl⟩
end Go.Proofs.Ytabaiklagobimaa
