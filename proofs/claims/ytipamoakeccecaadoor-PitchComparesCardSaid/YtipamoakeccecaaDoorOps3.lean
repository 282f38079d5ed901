import Derived.Test.YtipamoakeccecaaDoorResp
import Derived.Test.YtipamoakeccecaaDoorShelf
import Derived.Lib.AppendIntMem
/-! The tables; names of pitches. -/
namespace Go.Proofs.YtipamoakeccecaaDoor
open Go.RowKit
attribute [local go_sem] World.cell?_alloc_some

theorem var_later {P : Program} {w w' : World} {n : String} {cs : Array Value} (h : w.var? P n = some cs) (hb : G w w') : w'.var? P n = some cs := by
  unfold World.var? at h ⊢
  cases hg : P.globalNamed n with
  | none => rw [hg] at h; simp at h
  | some g =>
    rw [hg] at h
    simp only [Option.bind_some] at h ⊢
    have hlt : g < w.heap.size := by
      rcases Nat.lt_or_ge g w.heap.size with h' | h'
      · exact h'
      · rw [Array.getElem?_eq_none h'] at h; cases h
    rw [Below.block hb _ hlt]
    exact h
/-- the tables and variables that the functions read -/
structure Tab (w : World) : Prop where
  pow : Lib.TabIs Tryd.prog w "internal/strconv.uint64pow10" .u64 Lib.pow10Tab
  esy : ∃ tp p, w.var? Tryd.prog "strconv.ErrSyntax" = some #[.iface tp p]
  erg : ∃ tp p, w.var? Tryd.prog "strconv.ErrRange" = some #[.iface tp p]
  hts : Hts w
  sgn : Sgn w
theorem Tab.later {w w' : World} (h : Tab w) (g : G w w') : Tab w' :=
  ⟨var_later h.pow g, h.esy.imp fun _ k => k.imp fun _ k => var_later k g, h.erg.imp fun _ k => k.imp fun _ k => var_later k g, h.hts.later g, h.sgn.later g⟩

theorem Itoa_new (n : Int) (w : World) (h0 : -9223372036854775808 ≤ n) (h1 : n ≤ 9223372036854775807) (hT : Tab w) :
    Calls Tryd.prog 28 #[.int .i64 n] w fun e w' => e = .returned (.string ⟨(Lib.itoa n).toArray⟩) ∧ G w w' :=
  (Tryd.strconv_Itoa n h0 h1 w hT.pow).mono fun _ _ ⟨he, k, os, hw⟩ => ⟨he, hw ▸ Lib.below_grow _ _ (Nat.le_refl _) k os⟩

theorem Itoa_B (n : Int) (B : ByteArray) (w : World) (hB : Hid (B = ⟨(Lib.itoa n).toArray⟩)) (h0 : -9223372036854775808 ≤ n) (h1 : n ≤ 9223372036854775807) (hT : Tab w) :
    Calls Tryd.prog 28 #[.int .i64 n] w fun e w' => e = .returned (.string B) ∧ G w w' := by
  rw [hB.out]; exact Itoa_new n w h0 h1 hT

/-- the letter of a step, the sign of an alteration, the name of a pitch -/
def ltr (s : Int) : UInt8 := if s = 0 then 67 else if s = 1 then 68 else if s = 2 then 69 else if s = 3 then 70 else if s = 4 then 71 else if s = 5 then 65 else 66
def sig (a : Int) : List UInt8 := if a = -2 then [98, 98] else if a = -1 then [98] else if a = 0 then [] else if a = 1 then [35] else [35, 35]
def nm (s a o : Int) : List UInt8 := ltr s :: (sig a ++ Lib.itoa o)
theorem ret_str2 {a b : ByteArray} {c : Int} (h : a = b) : Ending.returned (.tuple #[.string a, .int .i64 c]) = .returned (.tuple #[.string b, .int .i64 c]) := by rw [h]
theorem alts5 {a : Int} (h0 : -2 ≤ a) (h1 : a ≤ 2) : a = -2 ∨ a = -1 ∨ a = 0 ∨ a = 1 ∨ a = 2 := by omega

theorem itoa_len9 {o : Int} (h0 : -1 ≤ o) (h1 : o ≤ 9) : (Lib.itoa o).length ≤ 2 := by
  have h : o = -1 ∨ o = 0 ∨ o = 1 ∨ o = 2 ∨ o = 3 ∨ o = 4 ∨ o = 5 ∨ o = 6 ∨ o = 7 ∨ o = 8 ∨ o = 9 := by omega
  rcases h with rfl | rfl | rfl | rfl | rfl | rfl | rfl | rfl | rfl | rfl | rfl <;> unfold Lib.itoa <;> simp <;> rw [Lib.decDigits] <;> simp
theorem letter_run (s : Int) (h0 : 0 ≤ s) (h1 : s ≤ 6) (w : World) :
    (Instr.sliceAt 9 (.string ⟨#[67, 68, 69, 70, 71, 65, 66]⟩) (some (.int .i64 s)) (some (.int .i64 (s + 1))) none).run Tryd.prog w = .ok (.string ⟨#[ltr s]⟩) w := by
  rcases steps7 h0 h1 with rfl | rfl | rfl | rfl | rfl | rfl | rfl <;> simp [Instr.sliceAt, run_underlying Tryd.underlying9, asIntOf, go_sem, Instr.sliceBound] <;> decide
set_option maxHeartbeats 800000 in
theorem Name_bad (s a o : Int) (w : World) (hT : Tab w) (h : ¬ Ok s a o) :
    Calls Tryd.prog 15 #[.agg #[.int .i64 s, .int .i64 a, .int .i64 o]] w fun e w' => e = .returned (.tuple #[.string ⟨#[]⟩, .int .i64 18]) ∧ G w w' := by
  have HT := Lib.hid hT
  have HO := Lib.hid h
  clear hT h
  go_enter Tryd.func15, Tryd.ntmps15
  go_wp2_with fail
  refine (Check_any s a o _ (HT.out.later (by (repeat' (first | (with_reducible exact G.refl _) | (with_reducible assumption) | (with_reducible refine G.drewN ?_ _) | (with_reducible refine G.drew ?_) | (with_reducible refine G.alloc ?_ _) | (with_reducible refine G.setCell ?_ (by first | (with_reducible exact Nat.le_refl _) | (simp; done) | (simp; omega) | omega) _) | (with_reducible refine G.trans ?_ (by assumption)))))).hts).mono ?_
  rintro e w1 ⟨rfl, hG⟩
  rw [er_bad HO.out]
  go_wp2_with fail
  go_returns
  exact ⟨rfl, by (repeat' (first | (with_reducible exact G.refl _) | (with_reducible assumption) | (with_reducible refine G.drewN ?_ _) | (with_reducible refine G.drew ?_) | (with_reducible refine G.alloc ?_ _) | (with_reducible refine G.setCell ?_ (by first | (with_reducible exact Nat.le_refl _) | (simp; done) | (simp; omega) | omega) _) | (with_reducible refine G.trans ?_ (by assumption))))⟩

set_option maxHeartbeats 3200000 in
theorem Name_ok (s a o : Int) (w : World) (hT : Tab w) (h : Ok s a o) :
    Calls Tryd.prog 15 #[.agg #[.int .i64 s, .int .i64 a, .int .i64 o]] w fun e w' => e = .returned (.tuple #[.string ⟨(nm s a o).toArray⟩, .int .i64 0]) ∧ G w w' := by
  have HT := Lib.hid hT
  have HO := Lib.hid h
  obtain ⟨⟨⟨s0, s1⟩, ⟨a0, a1⟩, o0, o1⟩, _⟩ := h
  clear hT
  go_enter Tryd.func15, Tryd.ntmps15
  go_wp2_with fail
  refine (Check_any s a o _ (HT.out.later (by (repeat' (first | (with_reducible exact G.refl _) | (with_reducible assumption) | (with_reducible refine G.drewN ?_ _) | (with_reducible refine G.drew ?_) | (with_reducible refine G.alloc ?_ _) | (with_reducible refine G.setCell ?_ (by first | (with_reducible exact Nat.le_refl _) | (simp; done) | (simp; omega) | omega) _) | (with_reducible refine G.trans ?_ (by assumption)))))).hts).mono ?_
  rintro e w1 ⟨rfl, hG⟩
  rw [er_ok HO.out]
  obtain ⟨y0, y1, y2⟩ := tri_later hG
  have T1 := HT.out.later (show G w w1 by (repeat' (first | (with_reducible exact G.refl _) | (with_reducible assumption) | (with_reducible refine G.drewN ?_ _) | (with_reducible refine G.drew ?_) | (with_reducible refine G.alloc ?_ _) | (with_reducible refine G.setCell ?_ (by first | (with_reducible exact Nat.le_refl _) | (simp; done) | (simp; omega) | omega) _) | (with_reducible refine G.trans ?_ (by assumption)))))
  obtain ⟨g0, g1, g2, g3, g4⟩ := T1.sgn
  have hT1 := Lib.hid T1
  clear HO T1
  have q1 := IntWalk.i64_in (s + 1) (by omega)
  obtain ⟨B, hB⟩ : ∃ B : ByteArray, B = ⟨(Lib.itoa o).toArray⟩ := ⟨_, rfl⟩
  have hBs : B.size ≤ 2 := by rw [hB]; exact itoa_len9 o0 o1
  have HB := Lib.hid hB
  clear hB
  obtain ⟨Sg, hSg⟩ : ∃ z : ByteArray, Hid (z = ⟨(sig a).toArray⟩) := ⟨_, rfl⟩
  obtain ⟨Lt, hLt⟩ : ∃ z : ByteArray, Hid (z = ⟨#[ltr s]⟩) := ⟨_, rfl⟩
  have hSs : Sg.size ≤ 2 := by rw [hSg.out]; unfold sig; repeat' split
                               all_goals decide
  have hLs : Lt.size ≤ 1 := by rw [hLt.out]; exact Nat.le_refl _
  have hc1 : (9223372036854775807 < Lt.size + Sg.size) = False := by simp only [eq_iff_iff, iff_false]; omega
  have hc2 : (9223372036854775807 < (Lt ++ Sg).size + B.size) = False := by simp only [eq_iff_iff, iff_false, ByteArray.size_append]; omega
  have hc3 : (9223372036854775807 < Lt.size + Sg.size + B.size) = False := by simp only [eq_iff_iff, iff_false]; omega
  have hsl : ∀ wz, (Instr.sliceAt 9 (.string ⟨#[67, 68, 69, 70, 71, 65, 66]⟩) (some (.int .i64 s)) (some (.int .i64 (s + 1))) none).run Tryd.prog wz = .ok (.string Lt) wz := by
    rw [hLt.out]; exact letter_run s s0 s1
  rcases alts5 a0 a1 with rfl | rfl | rfl | rfl | rfl
  · have q2 : IntKind.i64.wrap 0 = 0 := by decide
    have gS : w1.cell? ⟨0, 0, none⟩ = some (.string Sg) := by rw [hSg.out]; exact g0
    clear g0 g1 g2 g3 g4
    go_wp2_with fail
    go_region_held3 (fun w' => w'.cell? ⟨w.heap.size, 0, none⟩ = some (.int .i64 s) ∧ w'.cell? ⟨w.heap.size, 1, none⟩ = some (.int .i64 (-2)) ∧ w'.cell? ⟨w.heap.size, 2, none⟩ = some (.int .i64 o) ∧ w'.cell? ⟨0, 0, none⟩ = some (.string Sg))
      (first | (with_reducible assumption) | ((try dsimp only); (repeat' (with_reducible apply And.intro)) <;> go_simp))
      (first | (go_at_call 28; refine (Itoa_B o B _ HB (by omega) (by omega) (hT1.out.later (by (repeat' (first | (with_reducible exact G.refl _) | (with_reducible assumption) | (with_reducible refine G.drewN ?_ _) | (with_reducible refine G.drew ?_) | (with_reducible refine G.alloc ?_ _) | (with_reducible refine G.setCell ?_ (by first | (with_reducible exact Nat.le_refl _) | (simp; done) | (simp; omega) | omega) _) | (with_reducible refine G.trans ?_ (by assumption))))))).mono ?_; rintro e w2 ⟨rfl, hG2⟩; have gw2 := G.trans (a := w1) (by (repeat' (first | (with_reducible exact G.refl _) | (with_reducible assumption) | (with_reducible refine G.drewN ?_ _) | (with_reducible refine G.drew ?_) | (with_reducible refine G.alloc ?_ _) | (with_reducible refine G.setCell ?_ (by first | (with_reducible exact Nat.le_refl _) | (simp; done) | (simp; omega) | omega) _) | (with_reducible refine G.trans ?_ (by assumption))))) hG2; have k0 := gw2.at y0; have k1 := gw2.at y1; have k2 := gw2.at y2; have k3 := gw2.at gS))
    go_wp2
    go_returns
    refine ⟨ret_str2 ?_, by (repeat' (first | (with_reducible exact G.refl _) | (with_reducible assumption) | (with_reducible refine G.drewN ?_ _) | (with_reducible refine G.drew ?_) | (with_reducible refine G.alloc ?_ _) | (with_reducible refine G.setCell ?_ (by first | (with_reducible exact Nat.le_refl _) | (simp; done) | (simp; omega) | omega) _) | (with_reducible refine G.trans ?_ (by assumption))))⟩
    rw [HB.out, hSg.out, hLt.out]
    apply ByteArray.ext
    simp [nm, sig]
  · have q2 : IntKind.i64.wrap 1 = 1 := by decide
    have gS : w1.cell? ⟨0, 1, none⟩ = some (.string Sg) := by rw [hSg.out]; exact g1
    clear g0 g1 g2 g3 g4
    go_wp2_with fail
    go_region_held3 (fun w' => w'.cell? ⟨w.heap.size, 0, none⟩ = some (.int .i64 s) ∧ w'.cell? ⟨w.heap.size, 1, none⟩ = some (.int .i64 (-1)) ∧ w'.cell? ⟨w.heap.size, 2, none⟩ = some (.int .i64 o) ∧ w'.cell? ⟨0, 1, none⟩ = some (.string Sg))
      (first | (with_reducible assumption) | ((try dsimp only); (repeat' (with_reducible apply And.intro)) <;> go_simp))
      (first | (go_at_call 28; refine (Itoa_B o B _ HB (by omega) (by omega) (hT1.out.later (by (repeat' (first | (with_reducible exact G.refl _) | (with_reducible assumption) | (with_reducible refine G.drewN ?_ _) | (with_reducible refine G.drew ?_) | (with_reducible refine G.alloc ?_ _) | (with_reducible refine G.setCell ?_ (by first | (with_reducible exact Nat.le_refl _) | (simp; done) | (simp; omega) | omega) _) | (with_reducible refine G.trans ?_ (by assumption))))))).mono ?_; rintro e w2 ⟨rfl, hG2⟩; have gw2 := G.trans (a := w1) (by (repeat' (first | (with_reducible exact G.refl _) | (with_reducible assumption) | (with_reducible refine G.drewN ?_ _) | (with_reducible refine G.drew ?_) | (with_reducible refine G.alloc ?_ _) | (with_reducible refine G.setCell ?_ (by first | (with_reducible exact Nat.le_refl _) | (simp; done) | (simp; omega) | omega) _) | (with_reducible refine G.trans ?_ (by assumption))))) hG2; have k0 := gw2.at y0; have k1 := gw2.at y1; have k2 := gw2.at y2; have k3 := gw2.at gS))
    go_wp2
    go_returns
    refine ⟨ret_str2 ?_, by (repeat' (first | (with_reducible exact G.refl _) | (with_reducible assumption) | (with_reducible refine G.drewN ?_ _) | (with_reducible refine G.drew ?_) | (with_reducible refine G.alloc ?_ _) | (with_reducible refine G.setCell ?_ (by first | (with_reducible exact Nat.le_refl _) | (simp; done) | (simp; omega) | omega) _) | (with_reducible refine G.trans ?_ (by assumption))))⟩
    rw [HB.out, hSg.out, hLt.out]
    apply ByteArray.ext
    simp [nm, sig]
  · have q2 : IntKind.i64.wrap 2 = 2 := by decide
    have gS : w1.cell? ⟨0, 2, none⟩ = some (.string Sg) := by rw [hSg.out]; exact g2
    clear g0 g1 g2 g3 g4
    go_wp2_with fail
    go_region_held3 (fun w' => w'.cell? ⟨w.heap.size, 0, none⟩ = some (.int .i64 s) ∧ w'.cell? ⟨w.heap.size, 1, none⟩ = some (.int .i64 (0)) ∧ w'.cell? ⟨w.heap.size, 2, none⟩ = some (.int .i64 o) ∧ w'.cell? ⟨0, 2, none⟩ = some (.string Sg))
      (first | (with_reducible assumption) | ((try dsimp only); (repeat' (with_reducible apply And.intro)) <;> go_simp))
      (first | (go_at_call 28; refine (Itoa_B o B _ HB (by omega) (by omega) (hT1.out.later (by (repeat' (first | (with_reducible exact G.refl _) | (with_reducible assumption) | (with_reducible refine G.drewN ?_ _) | (with_reducible refine G.drew ?_) | (with_reducible refine G.alloc ?_ _) | (with_reducible refine G.setCell ?_ (by first | (with_reducible exact Nat.le_refl _) | (simp; done) | (simp; omega) | omega) _) | (with_reducible refine G.trans ?_ (by assumption))))))).mono ?_; rintro e w2 ⟨rfl, hG2⟩; have gw2 := G.trans (a := w1) (by (repeat' (first | (with_reducible exact G.refl _) | (with_reducible assumption) | (with_reducible refine G.drewN ?_ _) | (with_reducible refine G.drew ?_) | (with_reducible refine G.alloc ?_ _) | (with_reducible refine G.setCell ?_ (by first | (with_reducible exact Nat.le_refl _) | (simp; done) | (simp; omega) | omega) _) | (with_reducible refine G.trans ?_ (by assumption))))) hG2; have k0 := gw2.at y0; have k1 := gw2.at y1; have k2 := gw2.at y2; have k3 := gw2.at gS))
    go_wp2
    go_returns
    refine ⟨ret_str2 ?_, by (repeat' (first | (with_reducible exact G.refl _) | (with_reducible assumption) | (with_reducible refine G.drewN ?_ _) | (with_reducible refine G.drew ?_) | (with_reducible refine G.alloc ?_ _) | (with_reducible refine G.setCell ?_ (by first | (with_reducible exact Nat.le_refl _) | (simp; done) | (simp; omega) | omega) _) | (with_reducible refine G.trans ?_ (by assumption))))⟩
    rw [HB.out, hSg.out, hLt.out]
    apply ByteArray.ext
    simp [nm, sig]
  · have q2 : IntKind.i64.wrap 3 = 3 := by decide
    have gS : w1.cell? ⟨0, 3, none⟩ = some (.string Sg) := by rw [hSg.out]; exact g3
    clear g0 g1 g2 g3 g4
    go_wp2_with fail
    go_region_held3 (fun w' => w'.cell? ⟨w.heap.size, 0, none⟩ = some (.int .i64 s) ∧ w'.cell? ⟨w.heap.size, 1, none⟩ = some (.int .i64 (1)) ∧ w'.cell? ⟨w.heap.size, 2, none⟩ = some (.int .i64 o) ∧ w'.cell? ⟨0, 3, none⟩ = some (.string Sg))
      (first | (with_reducible assumption) | ((try dsimp only); (repeat' (with_reducible apply And.intro)) <;> go_simp))
      (first | (go_at_call 28; refine (Itoa_B o B _ HB (by omega) (by omega) (hT1.out.later (by (repeat' (first | (with_reducible exact G.refl _) | (with_reducible assumption) | (with_reducible refine G.drewN ?_ _) | (with_reducible refine G.drew ?_) | (with_reducible refine G.alloc ?_ _) | (with_reducible refine G.setCell ?_ (by first | (with_reducible exact Nat.le_refl _) | (simp; done) | (simp; omega) | omega) _) | (with_reducible refine G.trans ?_ (by assumption))))))).mono ?_; rintro e w2 ⟨rfl, hG2⟩; have gw2 := G.trans (a := w1) (by (repeat' (first | (with_reducible exact G.refl _) | (with_reducible assumption) | (with_reducible refine G.drewN ?_ _) | (with_reducible refine G.drew ?_) | (with_reducible refine G.alloc ?_ _) | (with_reducible refine G.setCell ?_ (by first | (with_reducible exact Nat.le_refl _) | (simp; done) | (simp; omega) | omega) _) | (with_reducible refine G.trans ?_ (by assumption))))) hG2; have k0 := gw2.at y0; have k1 := gw2.at y1; have k2 := gw2.at y2; have k3 := gw2.at gS))
    go_wp2
    go_returns
    refine ⟨ret_str2 ?_, by (repeat' (first | (with_reducible exact G.refl _) | (with_reducible assumption) | (with_reducible refine G.drewN ?_ _) | (with_reducible refine G.drew ?_) | (with_reducible refine G.alloc ?_ _) | (with_reducible refine G.setCell ?_ (by first | (with_reducible exact Nat.le_refl _) | (simp; done) | (simp; omega) | omega) _) | (with_reducible refine G.trans ?_ (by assumption))))⟩
    rw [HB.out, hSg.out, hLt.out]
    apply ByteArray.ext
    simp [nm, sig]
  · have q2 : IntKind.i64.wrap 4 = 4 := by decide
    have gS : w1.cell? ⟨0, 4, none⟩ = some (.string Sg) := by rw [hSg.out]; exact g4
    clear g0 g1 g2 g3 g4
    go_wp2_with fail
    go_region_held3 (fun w' => w'.cell? ⟨w.heap.size, 0, none⟩ = some (.int .i64 s) ∧ w'.cell? ⟨w.heap.size, 1, none⟩ = some (.int .i64 (2)) ∧ w'.cell? ⟨w.heap.size, 2, none⟩ = some (.int .i64 o) ∧ w'.cell? ⟨0, 4, none⟩ = some (.string Sg))
      (first | (with_reducible assumption) | ((try dsimp only); (repeat' (with_reducible apply And.intro)) <;> go_simp))
      (first | (go_at_call 28; refine (Itoa_B o B _ HB (by omega) (by omega) (hT1.out.later (by (repeat' (first | (with_reducible exact G.refl _) | (with_reducible assumption) | (with_reducible refine G.drewN ?_ _) | (with_reducible refine G.drew ?_) | (with_reducible refine G.alloc ?_ _) | (with_reducible refine G.setCell ?_ (by first | (with_reducible exact Nat.le_refl _) | (simp; done) | (simp; omega) | omega) _) | (with_reducible refine G.trans ?_ (by assumption))))))).mono ?_; rintro e w2 ⟨rfl, hG2⟩; have gw2 := G.trans (a := w1) (by (repeat' (first | (with_reducible exact G.refl _) | (with_reducible assumption) | (with_reducible refine G.drewN ?_ _) | (with_reducible refine G.drew ?_) | (with_reducible refine G.alloc ?_ _) | (with_reducible refine G.setCell ?_ (by first | (with_reducible exact Nat.le_refl _) | (simp; done) | (simp; omega) | omega) _) | (with_reducible refine G.trans ?_ (by assumption))))) hG2; have k0 := gw2.at y0; have k1 := gw2.at y1; have k2 := gw2.at y2; have k3 := gw2.at gS))
    go_wp2
    go_returns
    refine ⟨ret_str2 ?_, by (repeat' (first | (with_reducible exact G.refl _) | (with_reducible assumption) | (with_reducible refine G.drewN ?_ _) | (with_reducible refine G.drew ?_) | (with_reducible refine G.alloc ?_ _) | (with_reducible refine G.setCell ?_ (by first | (with_reducible exact Nat.le_refl _) | (simp; done) | (simp; omega) | omega) _) | (with_reducible refine G.trans ?_ (by assumption))))⟩
    rw [HB.out, hSg.out, hLt.out]
    apply ByteArray.ext
    simp [nm, sig]
end Go.Proofs.YtipamoakeccecaaDoor
