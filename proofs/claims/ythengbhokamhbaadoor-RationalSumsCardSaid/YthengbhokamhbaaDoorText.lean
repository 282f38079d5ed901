import Derived.Test.YthengbhokamhbaaDoorBest
import Derived.Lib.AppendIntMem
/-! Text of the program. -/
namespace Go.Proofs.YthengbhokamhbaaDoor
open Go.RowKit QM

theorem gPow : Tryd.prog.globalNamed "internal/strconv.uint64pow10" = some 0 := by kernel_rfl
/-- the table of powers of ten lies in the world -/
def Tab (w : World) : Prop := Lib.TabIs Tryd.prog w "internal/strconv.uint64pow10" .u64 Lib.pow10Tab
theorem Tab.later {w w' : World} (h : Tab w) (hb : G w w') : Tab w' := by
  unfold Tab Lib.TabIs World.var? at h ⊢
  rw [gPow] at h ⊢
  simp only [Option.bind_some] at h ⊢
  have hlt : 0 < w.heap.size := by
    rcases Nat.lt_or_ge 0 w.heap.size with h' | h'
    · exact h'
    · rw [Array.getElem?_eq_none h'] at h; cases h
  rw [Below.block hb _ hlt]
  exact h

/-- the text of a fraction -/
def txt (N O : Int) : List UInt8 := Lib.itoa N ++ if 0 < O then 47 :: Lib.itoa (O + 1) else []

theorem Itoa_new (n : Int) (w : World) (h0 : -9223372036854775808 ≤ n) (h1 : n ≤ 9223372036854775807) (hT : Tab w) :
    Calls Tryd.prog 28 #[.int .i64 n] w fun e w' => e = .returned (.string ⟨(Lib.itoa n).toArray⟩) ∧ G w w' :=
  (Tryd.strconv_Itoa n h0 h1 w hT).mono fun _ _ ⟨he, k, os, hw⟩ => ⟨he, hw ▸ Lib.below_grow _ _ (Nat.le_refl _) k os⟩

theorem decDigits_len (u : Nat) : (Lib.decDigits u).length ≤ u + 1 := by
  induction u using Nat.strongRecOn with
  | _ u ih =>
    rw [Lib.decDigits]
    split
    · simp
    · have := ih (u / 10) (by omega)
      simp; omega
theorem itoa_len (n : Int) : (Lib.itoa n).length ≤ n.natAbs + 2 := by
  unfold Lib.itoa
  split
  · have := decDigits_len n.natAbs; simp; omega
  · have := decDigits_len n.toNat; omega
theorem ret_str {a b : ByteArray} (h : a = b) : Ending.returned (.string a) = .returned (.string b) := by rw [h]

set_option maxHeartbeats 800000 in
theorem Text_any (N O : Int) (w : World) (h : Cn N O) (hT : Tab w) :
    Calls Tryd.prog 16 #[.agg #[.int .i64 N, .int .i64 O]] w fun e w' => e = .returned (.string ⟨(txt N O).toArray⟩) ∧ G w w' := by
  have hC := h
  obtain ⟨a1, a2, a3, a4, a5⟩ := h
  have HT := Lib.hid hT
  clear hT
  by_cases c : 0 < O
  · have e0 : txt N O = Lib.itoa N ++ 47 :: Lib.itoa (O + 1) := by unfold txt; rw [if_pos c]
    have E0 := Lib.hid e0
    clear e0
    go_enter Tryd.func16, Tryd.ntmps16
    go_wp2_with fail
    refine (Itoa_new N _ (by omega) (by omega) (HT.out.later (by (repeat' (first | (with_reducible exact G.refl _) | (with_reducible assumption) | (with_reducible refine G.drewN ?_ _) | (with_reducible refine G.drew ?_) | (with_reducible refine G.alloc ?_ _) | (with_reducible refine G.setCell ?_ (by first | (with_reducible exact Nat.le_refl _) | (simp; done) | (simp; omega) | omega) _) | (with_reducible refine G.trans ?_ (by assumption))))))).mono ?_
    rintro e w1 ⟨rfl, hG1⟩
    obtain ⟨y1, y2, y3, y4, y5⟩ := one_cells hG1
    go_wp2_with fail
    refine (Den_new _ _ _ (by omega) (by omega)).mono ?_
    rintro e w2 ⟨rfl, hG2⟩
    go_wp2_with fail
    refine (Itoa_new _ _ (by omega) (by omega) (HT.out.later (by (repeat' (first | (with_reducible exact G.refl _) | (with_reducible assumption) | (with_reducible refine G.drewN ?_ _) | (with_reducible refine G.drew ?_) | (with_reducible refine G.alloc ?_ _) | (with_reducible refine G.setCell ?_ (by first | (with_reducible exact Nat.le_refl _) | (simp; done) | (simp; omega) | omega) _) | (with_reducible refine G.trans ?_ (by assumption))))))).mono ?_
    rintro e w3 ⟨rfl, hG3⟩
    have l1 := itoa_len N
    have l2 := itoa_len (O + 1)
    go_wp2
    go_ret
    refine ⟨ret_str ?_, by (repeat' (first | (with_reducible exact G.refl _) | (with_reducible assumption) | (with_reducible refine G.drewN ?_ _) | (with_reducible refine G.drew ?_) | (with_reducible refine G.alloc ?_ _) | (with_reducible refine G.setCell ?_ (by first | (with_reducible exact Nat.le_refl _) | (simp; done) | (simp; omega) | omega) _) | (with_reducible refine G.trans ?_ (by assumption))))⟩
    rw [E0.out]
    apply ByteArray.ext
    simp
  · have e0 : txt N O = Lib.itoa N := by unfold txt; rw [if_neg c, List.append_nil]
    have E0 := Lib.hid e0
    clear e0
    go_enter Tryd.func16, Tryd.ntmps16
    go_wp2_with fail
    refine (Itoa_new N _ (by omega) (by omega) (HT.out.later (by (repeat' (first | (with_reducible exact G.refl _) | (with_reducible assumption) | (with_reducible refine G.drewN ?_ _) | (with_reducible refine G.drew ?_) | (with_reducible refine G.alloc ?_ _) | (with_reducible refine G.setCell ?_ (by first | (with_reducible exact Nat.le_refl _) | (simp; done) | (simp; omega) | omega) _) | (with_reducible refine G.trans ?_ (by assumption))))))).mono ?_
    rintro e w1 ⟨rfl, hG1⟩
    obtain ⟨y1, y2, y3, y4, y5⟩ := one_cells hG1
    go_wp2
    go_ret
    exact ⟨by rw [E0.out]; rfl, by (repeat' (first | (with_reducible exact G.refl _) | (with_reducible assumption) | (with_reducible refine G.drewN ?_ _) | (with_reducible refine G.drew ?_) | (with_reducible refine G.alloc ?_ _) | (with_reducible refine G.setCell ?_ (by first | (with_reducible exact Nat.le_refl _) | (simp; done) | (simp; omega) | omega) _) | (with_reducible refine G.trans ?_ (by assumption))))⟩
end Go.Proofs.YthengbhokamhbaaDoor
