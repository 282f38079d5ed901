import Derived.Test.YtabaiklagobimaaT6
/-! Tuplets: all lengths; the chapter's example. -/
namespace Go.Proofs.Ytabaiklagobimaa
open Go.RowKit
attribute [local go_sem] World.cell?_alloc_some

/-- integers in a block that may be written -/
def IA (w : World) (g N : Nat) (F : Nat → Int) : Prop := ∀ j, j < N → w.cell? ⟨g, j, none⟩ = some (.int .i64 (F j)) ∧ w.frozen? ⟨g, j, none⟩ = false
theorem IA.later {w w' : World} {g N : Nat} {F : Nat → Int} (h : IA w g N F) (k : G w w') : IA w' g N F := fun j hj =>
  ⟨k.at (h j hj).1, (k.frozen (cell_lt (h j hj).1)).trans (h j hj).2⟩
theorem IA.new (w : World) (N : Nat) (t : TypeId) : IA (w.alloc (.cells (madeCells #[.int .i64 0] N) t)) w.heap.size N (fun _ => 0) := fun j hj => by
  refine ⟨?_, by simp [go_sem]⟩
  have h : (madeCells #[.int .i64 0] N)[j]? = some (.int .i64 0) := by
    unfold madeCells
    simp [hj, Nat.mod_one]
  simp [h]
def updN (F : Nat → Int) (i : Nat) (x : Int) : Nat → Int := fun j => if j = i then x else F j
theorem IA.set {w : World} {g N : Nat} {F : Nat → Int} (h : IA w g N F) {i : Nat} (hi : i < N) (x : Int) : IA (w.setCell ⟨g, i, none⟩ (.int .i64 x)) g N (updN F i x) := fun j hj => by
  refine ⟨?_, by simp [go_sem]; exact (h j hj).2⟩
  unfold updN
  by_cases e : j = i
  · subst e
    rw [World.cell?_setCell_same _ _ _ (h j hj).1, if_pos rfl]
  · rw [World.cell?_setCell_other _ _ _ _ (by simp only [ne_eq, Addr.mk.injEq]; omega), (h j hj).1, if_neg e]
theorem make_ints (n : Nat) (hn : n ≤ 1000000) (w : World) : (Instr.makeSlice 40 (.int .i64 n) (.int .i64 n)).run Try.prog w = .ok (.slice (some ⟨w.heap.size, 0, none⟩) n n) (w.alloc (.cells (madeCells #[.int .i64 0] n) 3)) := by
  obtain ⟨i, hi, hz, hs, hb⟩ := info_parts' iInfo
  have h := run_make (P := Try.prog) w 40 3 i _ Try.underlying40 hi hz .i64 .i64 n n (by omega) (Int.le_refl _) (by rw [hb]; omega) (by omega)
  rw [hs] at h
  simpa [Value.cells] using h

/-- what Lengths answers -/
def LensR (w' : World) (l : List Tu) (r : List Int) (v : Value) : Prop :=
  if lensT l r = 0 then ∃ g, v = .slice (some ⟨g, 0, none⟩) r.length r.length ∧ ∀ j x, (lens l 0 r)[j]? = some x → w'.cell? ⟨g, j, none⟩ = some (.int .i64 x) else v = .slice none 0 0
theorem LensR.later {w w' : World} {l : List Tu} {r : List Int} {v : Value} (h : LensR w l r v) (g : G w w') : LensR w' l r v := by
  unfold LensR at h ⊢
  split
  · rw [if_pos (by assumption)] at h
    obtain ⟨b, h1, h2⟩ := h
    exact ⟨b, h1, fun j x hx => g.at (h2 j x hx)⟩
  · rw [if_neg (by assumption)] at h; exact h

set_option maxRecDepth 100000 in
set_option maxHeartbeats 12800000 in
theorem tLengths_any (a b : Option Addr) (l : List Tu) (r : List Int) (n c m d : Nat) (w : World) (hn : l.length = n) (hm : r.length = m) (hm2 : m ≤ 1000) (h1 : TusAt w a l) (hc : CB l) (h2 : IntsAt w b r) :
    Calls Try.prog 24 #[.slice a n c, .slice b m d] w fun e w' => ∃ v, e = .returned (.tuple #[v, .int .i64 (lensT l r)]) ∧ LensR w' l r v ∧ G w w' := by
  subst hn hm
  have H1 := Lib.hid h1
  have H2 := Lib.hid h2
  have HC := Lib.hid hc
  clear h1 h2 hc
  obtain ⟨E, hE⟩ : ∃ z : Int, Hid (z = lensT l r) := ⟨_, rfl⟩
  rw [← hE.out]
  by_cases hk : ckT r.length l = 0
  rotate_left
  · have HE := Lib.hid (show E = ckT r.length l by rw [hE.out]; exact if_neg hk)
    have HNE : E ≠ 0 := by rw [HE.out]; exact hk
    have e3 : (E == 0) = false := beq_false_of_ne HNE
    have e4 : (E != 0) = true := by simp [bne, e3]
    have HN := Lib.hid (show ¬ lensT l r = 0 by rw [← hE.out]; exact HNE)
    clear HNE hk
    go_enter Try.func24, Try.ntmps24
    go_wp2_with fail
    refine (tCheck_any a l _ c _ _ rfl (H1.out.later (by (repeat' (first | (with_reducible exact G.refl _) | (with_reducible assumption) | (with_reducible refine G.drewN ?_ _) | (with_reducible refine G.drew ?_) | (with_reducible refine G.alloc ?_ _) | (with_reducible refine G.setCell ?_ (by first | (with_reducible exact Nat.le_refl _) | (simp; done) | (simp; omega) | omega) _) | (with_reducible refine G.trans ?_ (by assumption)))))) HC.out).mono ?_
    rintro e w1 ⟨rfl, hG⟩
    rw [← HE.out]
    go_wp2_with fail
    go_returns
    exact ⟨_, rfl, by unfold LensR; rw [if_neg HN.out]; rfl, by (repeat' (first | (with_reducible exact G.refl _) | (with_reducible assumption) | (with_reducible refine G.drewN ?_ _) | (with_reducible refine G.drew ?_) | (with_reducible refine G.alloc ?_ _) | (with_reducible refine G.setCell ?_ (by first | (with_reducible exact Nat.le_refl _) | (simp; done) | (simp; omega) | omega) _) | (with_reducible refine G.trans ?_ (by assumption))))⟩
  have hl20 : l.length ≤ 20 := by have := (ckT_ok hk).2.1; omega
  have HF := Lib.hid (ckT_fit hk)
  have HE := Lib.hid (show E = lensE l 0 r by rw [hE.out]; exact if_pos hk)
  have HK := Lib.hid hk
  have HL20 := Lib.hid hl20
  clear hk hl20
  have hmk := make_ints r.length (by omega)
  go_enter Try.func24, Try.ntmps24
  go_wp2_with fail
  refine (tCheck_any a l _ c _ _ rfl (H1.out.later (by (repeat' (first | (with_reducible exact G.refl _) | (with_reducible assumption) | (with_reducible refine G.drewN ?_ _) | (with_reducible refine G.drew ?_) | (with_reducible refine G.alloc ?_ _) | (with_reducible refine G.setCell ?_ (by first | (with_reducible exact Nat.le_refl _) | (simp; done) | (simp; omega) | omega) _) | (with_reducible refine G.trans ?_ (by assumption)))))) HC.out).mono ?_
  rintro e w1 ⟨rfl, hG⟩
  rw [HK.out]
  go_wp2_with fail
  have c0 := Lib.hid (IA.new w1 r.length 3)
  have g0 : G w (w1.alloc (.cells (madeCells #[.int .i64 0] r.length) 3)) := by (repeat' (first | (with_reducible exact G.refl _) | (with_reducible assumption) | (with_reducible refine G.drewN ?_ _) | (with_reducible refine G.drew ?_) | (with_reducible refine G.alloc ?_ _) | (with_reducible refine G.setCell ?_ (by first | (with_reducible exact Nat.le_refl _) | (simp; done) | (simp; omega) | omega) _) | (with_reducible refine G.trans ?_ (by assumption))))
  have gs : w.heap.size ≤ w1.heap.size := hG.size
  clear hmk
  generalize w1.alloc (.cells (madeCells #[.int .i64 0] r.length) 3) = W at *
  obtain ⟨g, hg⟩ : ∃ z : Nat, Hid (w1.heap.size = z) := ⟨_, rfl⟩
  rw [hg.out] at c0 gs ⊢
  have HGS := Lib.hid gs
  go_loopg [24] r.length (fun q x wr => ∃ (i : Nat) (F : Nat → Int), x = .int .i64 i ∧ q = r.length - i ∧ i ≤ r.length ∧ Hid (E = lensE l i (r.drop i)) ∧ Hid (∀ j, j < i → ∀ x, r[j]? = some x → F j = lenV l j x) ∧ Hid (IA wr g r.length F) ∧ G w wr)
  case atStart => exact ⟨0, _, rfl, by omega, by omega, Lib.hid HE.out, Lib.hid (fun j h => by omega), c0, g0⟩
  case round =>
    obtain ⟨i, F, rfl, hq, hi, hA, hV, hIA, gr⟩ := hrel
    have HQ := Lib.hid hq
    clear hq
    by_cases hin : i < r.length
    · obtain ⟨x, hx⟩ : ∃ z, r[i]? = some z := ⟨r[i], List.getElem?_eq_getElem hin⟩
      rcases H2.out with hz | ⟨b0, of, rfl, fc⟩
      · rw [hz] at hin; exact absurd hin (by simp)
      have x0 := gr.at (fc i _ hx)
      have HX := Lib.hid hx
      have b1 : (0 : Int) ≤ (i : Int) := by omega
      have b2 : (i : Int) < (r.length : Int) := by omega
      have q1 := IntWalk.i64_in ((i : Int) + 1) (by omega)
      clear fc hx
      by_cases h0 : lenE l i x = 0
      · have H0 := Lib.hid h0
        have HST := Lib.hid (lensE_step HX.out h0)
        clear h0
        go_wp2_with fail
        refine (length_any a l _ c _ _ _ rfl HL20.out (H1.out.later (by (repeat' (first | (with_reducible exact G.refl _) | (with_reducible assumption) | (with_reducible refine G.drewN ?_ _) | (with_reducible refine G.drew ?_) | (with_reducible refine G.alloc ?_ _) | (with_reducible refine G.setCell ?_ (by first | (with_reducible exact Nat.le_refl _) | (simp; done) | (simp; omega) | omega) _) | (with_reducible refine G.trans ?_ (by assumption)))))) HF.out).mono ?_
        rintro e w2 ⟨rfl, hG2⟩
        rw [H0.out]
        have A2 := Lib.hid (hIA.out.later (show G wr w2 from G.trans (by (repeat' (first | (with_reducible exact G.refl _) | (with_reducible refine G.drewN ?_ _) | (with_reducible refine G.drew ?_) | (with_reducible refine G.alloc ?_ _)))) hG2))
        obtain ⟨y0, y1⟩ := A2.out i hin
        go_wp2_with fail
        go_roundg (r.length - (i + 1))
        case measure => have := HQ.out; omega
        case rel => exact ⟨i + 1, updN F i (lenV l i x), by go_num, rfl, by omega, Lib.hid (by rw [hA.out, HST.out]), Lib.hid (fun j hj y hy => by
          unfold updN
          by_cases e : j = i
          · subst e
            rw [HX.out] at hy
            obtain rfl := Option.some.inj hy
            rw [if_pos rfl]
          · rw [if_neg e]; exact hV.out j (by omega) y hy), Lib.hid (A2.out.set hin _), G.setCell (by (repeat' (first | (with_reducible exact G.refl _) | (with_reducible assumption) | (with_reducible refine G.drewN ?_ _) | (with_reducible refine G.drew ?_) | (with_reducible refine G.alloc ?_ _) | (with_reducible refine G.setCell ?_ (by first | (with_reducible exact Nat.le_refl _) | (simp; done) | (simp; omega) | omega) _) | (with_reducible refine G.trans ?_ (by assumption))))) (by exact HGS.out) _⟩
      · have HR := Lib.hid (show E = lenE l i x by rw [hA.out, lensE_stop HX.out h0])
        have HNE : E ≠ 0 := by rw [HR.out]; exact h0
        have e3 : (E == 0) = false := beq_false_of_ne HNE
        have e4 : (E != 0) = true := by simp [bne, e3]
        have HN := Lib.hid (show ¬ lensT l r = 0 by rw [← hE.out]; exact HNE)
        clear HNE h0
        go_wp2_with fail
        refine (length_any a l _ c _ _ _ rfl HL20.out (H1.out.later (by (repeat' (first | (with_reducible exact G.refl _) | (with_reducible assumption) | (with_reducible refine G.drewN ?_ _) | (with_reducible refine G.drew ?_) | (with_reducible refine G.alloc ?_ _) | (with_reducible refine G.setCell ?_ (by first | (with_reducible exact Nat.le_refl _) | (simp; done) | (simp; omega) | omega) _) | (with_reducible refine G.trans ?_ (by assumption)))))) HF.out).mono ?_
        rintro e w2 ⟨rfl, hG2⟩
        rw [← HR.out]
        go_wp2_with fail
        go_returns
        exact ⟨_, rfl, by unfold LensR; rw [if_neg HN.out]; rfl, by (repeat' (first | (with_reducible exact G.refl _) | (with_reducible assumption) | (with_reducible refine G.drewN ?_ _) | (with_reducible refine G.drew ?_) | (with_reducible refine G.alloc ?_ _) | (with_reducible refine G.setCell ?_ (by first | (with_reducible exact Nat.le_refl _) | (simp; done) | (simp; omega) | omega) _) | (with_reducible refine G.trans ?_ (by assumption))))⟩
    · have hii : i = r.length := by omega
      subst hii
      have HE0 := Lib.hid (show E = 0 by rw [hA.out, List.drop_length]; rfl)
      have HN := Lib.hid (show lensT l r = 0 by rw [← hE.out]; exact HE0.out)
      go_wp2_with fail
      go_returns
      refine ⟨.slice (some ⟨g, 0, none⟩) r.length r.length, by rw [HE0.out]; first | done | rfl, ?_, by (repeat' (first | (with_reducible exact G.refl _) | (with_reducible assumption) | (with_reducible refine G.drewN ?_ _) | (with_reducible refine G.drew ?_) | (with_reducible refine G.alloc ?_ _) | (with_reducible refine G.setCell ?_ (by first | (with_reducible exact Nat.le_refl _) | (simp; done) | (simp; omega) | omega) _) | (with_reducible refine G.trans ?_ (by assumption))))⟩
      unfold LensR
      rw [if_pos HN.out]
      refine ⟨g, rfl, fun j y hy => ?_⟩
      have hj : j < r.length := by have := (List.getElem?_eq_some_iff.1 hy).1; rwa [lens_len] at this
      have hr : r[j]? = some r[j] := List.getElem?_eq_getElem hj
      have h3 := lens_at l r 0 j _ hr
      rw [h3] at hy
      obtain rfl := Option.some.inj hy
      rw [(hIA.out j hj).1, hV.out j hj _ hr, Int.zero_add]
end Go.Proofs.Ytabaiklagobimaa
