import Derived.Test.YtghlecocnflbnaaDoorA6
import Derived.DeepKeys
/-! Accidentals: Carry. -/
namespace Go.Proofs.YtghlecocnflbnaaDoor
open Go.RowKit
attribute [local go_sem] World.cell?_alloc_some

theorem arrS {F : Int → Int} : (arrL F).toArray.size = 77 := by rw [List.size_toArray, arrL_len]
theorem zc_arr : zc = (arrL (fun _ => 0)).toArray := by kernel_rfl
theorem zc_built : Tryd.prog.built 58 [] = some zc := by kernel_rfl
theorem zc_lits : ∃ L, Tryd.prog.keyLits 4 58 zc.toList = some L := Option.isSome_iff_exists.1 (by kernel_rfl)
theorem zc_eq (w : World) : (binOp .eql 58 (.agg zc) (.agg zc)).run Tryd.prog w = .ok (.bool true) w := by
  obtain ⟨L, hL⟩ := zc_lits
  obtain ⟨r, hr, hi⟩ := run_equalIn_deep (P := Tryd.prog) 9998 2 58 (by kernel_rfl) w 4 4 (.agg zc) (.agg zc) L L (by kernel_rfl) (by kernel_rfl) hL hL
  rw [run_eql_struct, hr, hi.2 rfl]
  rfl
theorem zc_ex2 : ∃ Z : Array Value, (∀ w : World, Sem.run Tryd.prog (zeroValue 58) w = .ok (.agg Z) w) ∧ Z.size = 77 ∧ ¬ Z = #[] ∧ (∀ j, j < 77 → Z[j]? = some (.int .i64 0)) ∧ Tryd.prog.built 58 [] = some Z ∧ Z = (arrL (fun _ => 0)).toArray ∧ ∀ w : World, (binOp .eql 58 (.agg Z) (.agg Z)).run Tryd.prog w = .ok (.bool true) w := by
  refine ⟨zc, zc_zero, by rw [zc_rep]; simp, by rw [zc_rep]; intro h; have := congrArg Array.size h; simp at this, fun j hj => ?_, zc_built, zc_arr, zc_eq⟩
  rw [zc_rep]
  simp [hj]

set_option maxRecDepth 100000 in
set_option maxHeartbeats 3200000 in
theorem Carry_bad (f : Int) (a : Option Addr) (l : List Nt) (n c : Nat) (w : World) (hn : l.length = n) (h1 : NtsAt w a l) (h0 : ckA f l ≠ 0) :
    Calls Tryd.prog 24 #[.int .i64 f, .slice a n c] w fun e w' => e = .returned (.tuple #[.agg (arrL (fun _ => 0)).toArray, .int .i64 (ckA f l)]) ∧ G w w' := by
  have H1 := Lib.hid h1
  have HN := Lib.hid hn
  obtain ⟨R, hR⟩ : ∃ z : Int, Hid (ckA f l = z) := ⟨_, rfl⟩
  rw [hR.out] at h0 ⊢
  have b3 : (R == 0) = false := beq_false_of_ne h0
  have b4 : (R != 0) = true := by simp [bne, b3]
  obtain ⟨Z, hZ, hZs, hZn, hZc, _, hZa, _⟩ := zc_ex2
  subst hZa
  have HZ := Lib.hid hZc
  clear h0 h1 hn hZc
  go_enter Tryd.func24, Tryd.ntmps24
  go_wp2_with fail
  refine (checkNotes_any f a l n c _ HN.out (H1.out.later (by (repeat' (first | (with_reducible exact G.refl _) | (with_reducible assumption) | (with_reducible refine G.drewN ?_ _) | (with_reducible refine G.drew ?_) | (with_reducible refine G.alloc ?_ _) | (with_reducible refine G.setCell ?_ (by first | (with_reducible exact Nat.le_refl _) | (simp; done) | (simp; omega) | omega) _) | (with_reducible refine G.trans ?_ (by assumption))))))).mono ?_
  rintro e w1 ⟨rfl, hG1⟩
  rw [hR.out]
  have g1 : G w w1 := by (repeat' (first | (with_reducible exact G.refl _) | (with_reducible assumption) | (with_reducible refine G.drewN ?_ _) | (with_reducible refine G.drew ?_) | (with_reducible refine G.alloc ?_ _) | (with_reducible refine G.setCell ?_ (by first | (with_reducible exact Nat.le_refl _) | (simp; done) | (simp; omega) | omega) _) | (with_reducible refine G.trans ?_ (by assumption))))
  have HA1 := Lib.hid ((Arr.new w HZ.out 58).later hG1)
  have HTH := Lib.hid HA1.out.there
  have HST := Lib.hid (HA1.out.stored (fun _ => 0))
  have gS := Lib.hid (G.setCells w.heap.size (Nat.le_refl _) (arrL (fun _ => 0)) 0 g1)
  have HO := Lib.hid (arrL_one (fun _ => 0))
  have HI := Lib.hid (show (Tryd.prog.info? 58).map (·.size) = some (arrL (fun _ => 0)).toArray.size by rw [List.size_toArray, arrL_len]; exact aInfo)
  have hl := Lib.hid (run_loadVar_mid (P := Tryd.prog) _ w.heap.size 0 58 (arrL (fun _ => 0)) _ HST.out.range Tryd.underlying58 rfl (by rw [arrL_len]; exact aInfo))
  have HTH' : Hid (w1.there w.heap.size 0 (arrL (fun _ => 0)).toArray.size) := Lib.hid (by rw [arrS]; exact HTH.out)
  generalize hLA : arrL (fun _ => 0) = LA at *
  have HLA := Lib.hid hLA
  clear hLA
  go_wp2_with (first
    | (refine wpList_store_mid rfl 58 _ _ rfl w.heap.size 0 LA.toArray rfl rfl HTH'.out HI.out HO.out ?_))
  refine bodyPost_ret (v := .tuple #[.agg LA.toArray, .int .i64 R]) ?_ rfl ⟨by rw [HLA.out], gS.out⟩
  exact results_cell_tmp' Tryd.results24 _ _ _ rfl hl.out
set_option maxRecDepth 100000 in
set_option maxHeartbeats 3200000 in
theorem Carry_ok (f : Int) (a : Option Addr) (l : List Nt) (n c : Nat) (w : World) (hn : l.length = n) (h1 : NtsAt w a l) (hT : Tab w) (h0 : ckA f l = 0) :
    Calls Tryd.prog 24 #[.int .i64 f, .slice a n c] w fun e w' => e = .returned (.tuple #[.agg (arrL (carr f l)).toArray, .int .i64 0]) ∧ G w w' := by
  have H1 := Lib.hid h1
  have HN := Lib.hid hn
  have HT := Lib.hid hT
  have H0 := Lib.hid h0
  have HK := Lib.hid (ckA_ok h0)
  have hle : n ≤ 2560 := by have := HK.out.2.1; omega
  obtain ⟨Z, hZ, hZs, hZn, hZc⟩ := zc_ex
  have HZ := Lib.hid hZc
  clear h0 h1 hn hT hZc
  go_enter Tryd.func24, Tryd.ntmps24
  go_wp2_with fail
  refine (checkNotes_any f a l n c _ HN.out (H1.out.later (by (repeat' (first | (with_reducible exact G.refl _) | (with_reducible assumption) | (with_reducible refine G.drewN ?_ _) | (with_reducible refine G.drew ?_) | (with_reducible refine G.alloc ?_ _) | (with_reducible refine G.setCell ?_ (by first | (with_reducible exact Nat.le_refl _) | (simp; done) | (simp; omega) | omega) _) | (with_reducible refine G.trans ?_ (by assumption))))))).mono ?_
  rintro e w1 ⟨rfl, hG1⟩
  rw [H0.out]
  have g1 : G w w1 := by (repeat' (first | (with_reducible exact G.refl _) | (with_reducible assumption) | (with_reducible refine G.drewN ?_ _) | (with_reducible refine G.drew ?_) | (with_reducible refine G.alloc ?_ _) | (with_reducible refine G.setCell ?_ (by first | (with_reducible exact Nat.le_refl _) | (simp; done) | (simp; omega) | omega) _) | (with_reducible refine G.trans ?_ (by assumption))))
  have HA1 := Lib.hid ((Arr.new w HZ.out 58).later hG1)
  go_wp2_with fail
  refine (aDisp_any f a l n c _ HN.out hle (H1.out.later g1) HK.out.2.2.1 HK.out.2.2.2.1 HK.out.1 (HT.out.later g1)).mono ?_
  rintro e w2 ⟨v, rfl, hR, hG2⟩
  obtain ⟨pv, cv, rfl, _⟩ := hR.len
  have g2 : G w w2 := g1.trans hG2
  have HO := Lib.hid (arrL_one (carr f l))
  have HI := Lib.hid (show (Tryd.prog.info? 58).map (·.size) = some (arrL (carr f l)).toArray.size by rw [arrS]; exact aInfo)
  have HI2 := Lib.hid (show (Tryd.prog.info? 58).map (·.size) = some (arrL (carr f l)).length by rw [arrL_len]; exact aInfo)
  have a8 := Arr.new w2 HZ.out 58
  have HTH8 : Hid ((w2.alloc (.cells Z 58)).there w2.heap.size 0 (arrL (carr f l)).toArray.size) := Lib.hid (by rw [arrS]; exact a8.there)
  have HR8 := Lib.hid (a8.stored (carr f l)).range
  have hG3 : G w2 ((w2.alloc (.cells Z 58)).setCells w2.heap.size 0 (arrL (carr f l))) := G.setCells w2.heap.size (Nat.le_refl _) (arrL (carr f l)) 0 ((G.refl w2).alloc _)
  have HA4 := (HA1.out.later hG2).later hG3
  have HTH4 : Hid (((w2.alloc (.cells Z 58)).setCells w2.heap.size 0 (arrL (carr f l))).there w.heap.size 0 (arrL (carr f l)).toArray.size) := Lib.hid (by rw [arrS]; exact HA4.there)
  have HST := Lib.hid (HA4.stored (carr f l))
  have gS := Lib.hid (G.setCells w.heap.size (Nat.le_refl _) (arrL (carr f l)) 0 (g2.trans hG3))
  have hl := Lib.hid (run_loadVar_mid (P := Tryd.prog) _ w.heap.size 0 58 (arrL (carr f l)) _ HST.out.range Tryd.underlying58 rfl (by rw [arrL_len]; exact aInfo))
  clear hR a8 hG3 HA4
  generalize hLA : arrL (carr f l) = LA at *
  have HLA := Lib.hid hLA
  clear hLA
  go_wp2_with (first
    | (refine wpList_load_mid rfl 58 _ rfl w2.heap.size 0 rfl LA _ HR8.out Tryd.underlying58 rfl HI2.out ?_)
    | (refine wpList_store_mid rfl 58 _ _ rfl w2.heap.size 0 LA.toArray rfl rfl HTH8.out HI.out HO.out ?_)
    | (refine wpList_store_mid rfl 58 _ _ rfl w.heap.size 0 LA.toArray rfl rfl HTH4.out HI.out HO.out ?_))
  refine bodyPost_ret (v := .tuple #[.agg LA.toArray, .int .i64 0]) ?_ rfl ⟨by rw [HLA.out], gS.out⟩
  exact results_cell_tmp' Tryd.results24 _ _ _ rfl hl.out
end Go.Proofs.YtghlecocnflbnaaDoor
