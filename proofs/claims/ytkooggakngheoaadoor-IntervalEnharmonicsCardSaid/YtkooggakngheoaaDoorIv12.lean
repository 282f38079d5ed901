import Derived.Test.YtkooggakngheoaaDoorIv10
import Derived.Test.YtkooggakngheoaaDoorEnhNe
/-! Intervals: Enharmonics. -/
namespace Go.Proofs.YtkooggakngheoaaDoor
open Go.RowKit
attribute [local go_sem] World.cell?_alloc_some

set_option maxHeartbeats 1600000 in
theorem iEnharmonics_bad (s a o : Int) (w : World) (h : ¬ Ok s a o) (hT : Hts w) :
    Calls Tryd.prog 28 #[.agg #[.int .i64 s, .int .i64 a, .int .i64 o]] w fun e w' => e = .returned (.tuple #[.slice none 0 0, .int .i64 18]) ∧ G w w' := by
  have HT := Lib.hid hT
  have HO := Lib.hid h
  clear hT h
  go_enter Tryd.func28, Tryd.ntmps28
  go_wp2_with fail
  refine (Number_any s a o _ (HT.out.later (by (repeat' (first | (with_reducible exact G.refl _) | (with_reducible assumption) | (with_reducible refine G.drewN ?_ _) | (with_reducible refine G.drew ?_) | (with_reducible refine G.alloc ?_ _) | (with_reducible refine G.setCell ?_ (by first | (with_reducible exact Nat.le_refl _) | (simp; done) | (simp; omega) | omega) _) | (with_reducible refine G.trans ?_ (by assumption))))))).mono ?_
  rintro e w1 ⟨rfl, hG⟩
  rw [er_bad HO.out, if_neg HO.out]
  go_wp2_with fail
  go_returns
  exact ⟨rfl, by (repeat' (first | (with_reducible exact G.refl _) | (with_reducible assumption) | (with_reducible refine G.drewN ?_ _) | (with_reducible refine G.drew ?_) | (with_reducible refine G.alloc ?_ _) | (with_reducible refine G.setCell ?_ (by first | (with_reducible exact Nat.le_refl _) | (simp; done) | (simp; omega) | omega) _) | (with_reducible refine G.trans ?_ (by assumption))))⟩

set_option maxHeartbeats 1600000 in
theorem iEnharmonics_ok (s a o : Int) (w : World) (h : Ok s a o) (hT : Hts w) :
    Calls Tryd.prog 28 #[.agg #[.int .i64 s, .int .i64 a, .int .i64 o]] w fun e w' => ∃ v, e = .returned (.tuple #[v, .int .i64 0]) ∧ w'.ownsRow w.heap.size 41 3 v (enh (ht s a o) (alts 5)).length (flat (enh (ht s a o) (alts 5))) ∧ G w w' := by
  have HT := Lib.hid hT
  have HO := Lib.hid h
  obtain ⟨n0, n1⟩ := h.2
  obtain ⟨n, hn⟩ : ∃ z : Int, Hid (z = ht s a o) := ⟨_, rfl⟩
  rw [← hn.out] at n0 n1
  rw [← hn.out]
  clear hT h
  go_enter Tryd.func28, Tryd.ntmps28
  go_wp2_with fail
  refine (Number_any s a o _ (HT.out.later (by (repeat' (first | (with_reducible exact G.refl _) | (with_reducible assumption) | (with_reducible refine G.drewN ?_ _) | (with_reducible refine G.drew ?_) | (with_reducible refine G.alloc ?_ _) | (with_reducible refine G.setCell ?_ (by first | (with_reducible exact Nat.le_refl _) | (simp; done) | (simp; omega) | omega) _) | (with_reducible refine G.trans ?_ (by assumption))))))).mono ?_
  rintro e w1 ⟨rfl, hG⟩
  rw [er_ok HO.out, if_pos HO.out, ← hn.out]
  have g1 : G w w1 := by (repeat' (first | (with_reducible exact G.refl _) | (with_reducible assumption) | (with_reducible refine G.drewN ?_ _) | (with_reducible refine G.drew ?_) | (with_reducible refine G.alloc ?_ _) | (with_reducible refine G.setCell ?_ (by first | (with_reducible exact Nat.le_refl _) | (simp; done) | (simp; omega) | omega) _) | (with_reducible refine G.trans ?_ (by assumption))))
  go_wp2_with fail
  refine (Enharmonics_any n _ n0 n1 (HT.out.later (by (repeat' (first | (with_reducible exact G.refl _) | (with_reducible assumption) | (with_reducible refine G.drewN ?_ _) | (with_reducible refine G.drew ?_) | (with_reducible refine G.alloc ?_ _) | (with_reducible refine G.setCell ?_ (by first | (with_reducible exact Nat.le_refl _) | (simp; done) | (simp; omega) | omega) _) | (with_reducible refine G.trans ?_ (by assumption))))))).mono ?_
  rintro e w3 ⟨v, rfl, hown, hG3⟩
  have hown2 := own_base hown g1.size
  go_wp2_with fail
  go_returns
  exact ⟨v, rfl, hown2, by (repeat' (first | (with_reducible exact G.refl _) | (with_reducible assumption) | (with_reducible refine G.drewN ?_ _) | (with_reducible refine G.drew ?_) | (with_reducible refine G.alloc ?_ _) | (with_reducible refine G.setCell ?_ (by first | (with_reducible exact Nat.le_refl _) | (simp; done) | (simp; omega) | omega) _) | (with_reducible refine G.trans ?_ (by assumption))))⟩
end Go.Proofs.YtkooggakngheoaaDoor
