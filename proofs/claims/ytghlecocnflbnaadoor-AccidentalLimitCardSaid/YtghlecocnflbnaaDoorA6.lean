import Derived.Test.YtghlecocnflbnaaDoorA5
/-! Accidentals: Display, Carry. -/
namespace Go.Proofs.YtghlecocnflbnaaDoor
open Go.RowKit
attribute [local go_sem] World.cell?_alloc_some

section
variable {α : Type} {enc : α → List Value} {e : TypeId} {sz base : Nat} {wr : World} {v : Value} {M : List α}
theorem Row.farNe (h : Row enc e sz base wr v M) {b : Nat} (hb : v.ownBlock ≠ some b) (j : Nat) (u : Value) : Row enc e sz base (wr.setCell ⟨b, j, none⟩ u) v M :=
  World.ownsRow.kept (row := some b) h ⟨rfl, rfl, rfl, by simp [World.setCell], fun k _ hk => heap_setCell_other _ _ _ _ (fun e => hk (by rw [e]))⟩ (.inr hb)
theorem Row.setCellsNe {b : Nat} (hb : v.ownBlock ≠ some b) : ∀ (vs : List Value) (o : Nat) {wr : World}, Row enc e sz base wr v M → Row enc e sz base (wr.setCells b o vs) v M
  | [], _, _, h => h
  | u :: r, o, _, h => by
    rw [World.setCells]
    exact Row.setCellsNe hb r (o + 1) (h.farNe hb o u)
theorem Row.lt (h : Row enc e sz base wr v M) : v.ownBlock ≠ some wr.heap.size := by
  rcases h.2 with ⟨rfl, _⟩ | ⟨g, cap, cur, rfl, _, hb, _⟩
  · simp [Value.ownBlock]
  · have hlt : g < wr.heap.size := by
      by_cases c : g < wr.heap.size
      · exact c
      · rw [Array.getElem?_eq_none (by omega)] at hb; cases hb
    simp only [Value.ownBlock, ne_eq, Option.some.injEq]
    omega
/-- a row behind a new block that is written -/
theorem Row.fresh (h : Row enc e sz base wr v M) (ob : Obj) (vs : List Value) : Row enc e sz base ((wr.alloc ob).setCells wr.heap.size 0 vs) v M :=
  Row.setCellsNe h.lt vs 0 (h.later (show G wr (wr.alloc ob) by (repeat' (first | (with_reducible exact G.refl _) | (with_reducible assumption) | (with_reducible refine G.drewN ?_ _) | (with_reducible refine G.drew ?_) | (with_reducible refine G.alloc ?_ _) | (with_reducible refine G.setCell ?_ (by first | (with_reducible exact Nat.le_refl _) | (simp; done) | (simp; omega) | omega) _) | (with_reducible refine G.trans ?_ (by assumption))))))
end
set_option maxRecDepth 100000 in
set_option maxHeartbeats 3200000 in
theorem Display_bad (f : Int) (a : Option Addr) (l : List Nt) (n c : Nat) (w : World) (hn : l.length = n) (h1 : NtsAt w a l) (h0 : ckA f l ≠ 0) :
    Calls Tryd.prog 14 #[.int .i64 f, .slice a n c] w fun e w' => e = .returned (.tuple #[.slice none 0 0, .int .i64 (ckA f l)]) ∧ G w w' := by
  have H1 := Lib.hid h1
  have HN := Lib.hid hn
  obtain ⟨R, hR⟩ : ∃ z : Int, Hid (ckA f l = z) := ⟨_, rfl⟩
  rw [hR.out] at h0 ⊢
  have b3 : (R == 0) = false := beq_false_of_ne h0
  have b4 : (R != 0) = true := by simp [bne, b3]
  clear h0 h1 hn
  go_enter Tryd.func14, Tryd.ntmps14
  go_wp2_with fail
  refine (checkNotes_any f a l n c _ HN.out (H1.out.later (by (repeat' (first | (with_reducible exact G.refl _) | (with_reducible assumption) | (with_reducible refine G.drewN ?_ _) | (with_reducible refine G.drew ?_) | (with_reducible refine G.alloc ?_ _) | (with_reducible refine G.setCell ?_ (by first | (with_reducible exact Nat.le_refl _) | (simp; done) | (simp; omega) | omega) _) | (with_reducible refine G.trans ?_ (by assumption))))))).mono ?_
  rintro e w1 ⟨rfl, hG1⟩
  rw [hR.out]
  go_wp2_with fail
  go_returns
  exact ⟨rfl, by (repeat' (first | (with_reducible exact G.refl _) | (with_reducible assumption) | (with_reducible refine G.drewN ?_ _) | (with_reducible refine G.drew ?_) | (with_reducible refine G.alloc ?_ _) | (with_reducible refine G.setCell ?_ (by first | (with_reducible exact Nat.le_refl _) | (simp; done) | (simp; omega) | omega) _) | (with_reducible refine G.trans ?_ (by assumption))))⟩
set_option maxRecDepth 100000 in
set_option maxHeartbeats 3200000 in
theorem Display_ok (f : Int) (a : Option Addr) (l : List Nt) (n c : Nat) (w : World) (hn : l.length = n) (h1 : NtsAt w a l) (hT : Tab w) (h0 : ckA f l = 0) :
    Calls Tryd.prog 14 #[.int .i64 f, .slice a n c] w fun e w' => ∃ v, e = .returned (.tuple #[v, .int .i64 0]) ∧ Row mkE 43 2 w.heap.size w' v (disp f l) ∧ G w w' := by
  have H1 := Lib.hid h1
  have HN := Lib.hid hn
  have HT := Lib.hid hT
  have H0 := Lib.hid h0
  have HK := Lib.hid (ckA_ok h0)
  have hle : n ≤ 2560 := by have := HK.out.2.1; omega
  obtain ⟨Z, hZ, hZs, hZn, hZc⟩ := zc_ex
  have HZ := Lib.hid hZc
  clear h0 h1 hn hT hZc
  go_enter Tryd.func14, Tryd.ntmps14
  go_wp2_with fail
  refine (checkNotes_any f a l n c _ HN.out (H1.out.later (by (repeat' (first | (with_reducible exact G.refl _) | (with_reducible assumption) | (with_reducible refine G.drewN ?_ _) | (with_reducible refine G.drew ?_) | (with_reducible refine G.alloc ?_ _) | (with_reducible refine G.setCell ?_ (by first | (with_reducible exact Nat.le_refl _) | (simp; done) | (simp; omega) | omega) _) | (with_reducible refine G.trans ?_ (by assumption))))))).mono ?_
  rintro e w1 ⟨rfl, hG1⟩
  rw [H0.out]
  have g1 : G w w1 := by (repeat' (first | (with_reducible exact G.refl _) | (with_reducible assumption) | (with_reducible refine G.drewN ?_ _) | (with_reducible refine G.drew ?_) | (with_reducible refine G.alloc ?_ _) | (with_reducible refine G.setCell ?_ (by first | (with_reducible exact Nat.le_refl _) | (simp; done) | (simp; omega) | omega) _) | (with_reducible refine G.trans ?_ (by assumption))))
  go_wp2_with fail
  refine (aDisp_any f a l n c _ HN.out hle (H1.out.later g1) HK.out.2.2.1 HK.out.2.2.2.1 HK.out.1 (HT.out.later g1)).mono ?_
  rintro e w2 ⟨v, rfl, hR, hG2⟩
  obtain ⟨pv, cv, rfl, _⟩ := hR.len
  have g2 : G w w2 := g1.trans hG2
  have HL := Lib.hid (arrL_len (carr f l))
  have HO := Lib.hid (arrL_one (carr f l))
  have HI := Lib.hid (show (Tryd.prog.info? 58).map (·.size) = some (arrL (carr f l)).toArray.size by rw [List.size_toArray, HL.out]; exact aInfo)
  have HTH := Lib.hid ((Arr.new w2 HZ.out 58).there)
  have HS : Hid ((arrL (carr f l)).toArray.size = 77) := Lib.hid (by rw [List.size_toArray]; exact HL.out)
  have HRR := Lib.hid hR
  have HB := Lib.hid g1.size
  have hlt := Lib.hid (hG2.size)
  clear hR HL
  generalize arrL (carr f l) = LA at *
  go_wp2_with (refine wpList_store_mid rfl 58 _ _ rfl w2.heap.size 0 LA.toArray rfl rfl (by rw [HS.out]; exact HTH.out) HI.out HO.out ?_)
  go_returns
  refine ⟨_, rfl, ?_, G.setCells _ (g2.size) _ _ (g2.alloc _)⟩
  exact own_base (HRR.out.fresh _ _) HB.out
end Go.Proofs.YtghlecocnflbnaaDoor
