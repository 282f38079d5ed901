import Derived.Test.YtghlecocnflbnaaDoorRw
/-! Accidentals: what is displayed, and what is in force behind it. -/
namespace Go.Proofs.YtghlecocnflbnaaDoor
open Go.RowKit
attribute [local go_sem] World.cell?_alloc_some

def mkE (m : Int × Bool) : List Value := [.int .i64 m.1, .bool m.2]
theorem mkE_len (m : Int × Bool) : (mkE m).length = 2 := rfl
theorem mInfo : (Tryd.prog.info? 43).map (fun i => (i.zero, i.size, i.bytes)) = some (some (.agg #[.int .i64 0, .bool false]), 2, 16) := by kernel_rfl
theorem two_fr {W w1 : World} {n : Nat} {a b : Value} {t : TypeId} (hs : W.heap.size = n) (h : G (W.alloc (.cells #[a, b] t)) w1) :
    (w1.cell? ⟨n, 0, none⟩ = some a ∧ w1.cell? ⟨n, 1, none⟩ = some b) ∧ w1.frozen? ⟨n, 0, none⟩ = false ∧ w1.frozen? ⟨n, 1, none⟩ = false := by
  subst hs
  refine ⟨⟨?_, ?_⟩, ?_, ?_⟩
  · rw [h.cell (by simp)]; go_cell
  · rw [h.cell (by simp)]; go_cell
  · rw [h.frozen (by simp)]; simp [go_sem]
  · rw [h.frozen (by simp)]; simp [go_sem]
theorem two_set {w : World} {b : Nat} {x y u v : Value} (h0 : w.cell? ⟨b, 0, none⟩ = some x) (h1 : w.cell? ⟨b, 1, none⟩ = some y) :
    ((w.setCell ⟨b, 0, none⟩ u).setCell ⟨b, 1, none⟩ v).cell? ⟨b, 0, none⟩ = some u ∧ ((w.setCell ⟨b, 0, none⟩ u).setCell ⟨b, 1, none⟩ v).cell? ⟨b, 1, none⟩ = some v := by
  refine ⟨?_, ?_⟩
  · rw [World.cell?_setCell_other _ _ _ _ (by simp), World.cell?_setCell_same _ _ _ h0]
  · rw [World.cell?_setCell_same _ _ _ (u := y)]
    rw [World.cell?_setCell_other _ _ _ _ (by simp), h1]

set_option maxRecDepth 100000 in
set_option maxHeartbeats 12800000 in
theorem aDisp_any (f : Int) (a : Option Addr) (l : List Nt) (n c : Nat) (w : World) (hn : l.length = n) (hl : n ≤ 2560) (h1 : NtsAt w a l) (hok : ∀ x ∈ l, NOk x) (hs : Srt l) (hf : Sg f) (hT : Tab w) :
    Calls Tryd.prog 28 #[.int .i64 f, .slice a n c] w fun e w' => ∃ v, e = .returned (.tuple #[v, .agg (arrL (carr f l)).toArray]) ∧ Row mkE 43 2 w.heap.size w' v (disp f l) ∧ G w w' := by
  subst hn
  obtain ⟨i0, hi, hz0, hz1, hz2⟩ := info_parts' mInfo
  have HT := Lib.hid hT
  have H1 := Lib.hid h1
  have HOK := Lib.hid hok
  have HS := Lib.hid hs
  have HF := Lib.hid hf
  clear hT h1 hok hs hf
  obtain ⟨Z, hZ, hZs, hZn, hZc⟩ := zc_ex
  have HZ := Lib.hid hZc
  clear hZc
  have HLA := Lib.hid (arrL_len (sg0 f))
  have HLO := Lib.hid (arrL_one (sg0 f))
  go_enter Tryd.func28, Tryd.ntmps28
  go_wp2_with fail
  have a5 := Lib.hid (Arr.new w HZ.out 58)
  refine (signature_any f _ HF.out (HT.out.later (by (repeat' (first | (with_reducible exact G.refl _) | (with_reducible assumption) | (with_reducible refine G.drewN ?_ _) | (with_reducible refine G.drew ?_) | (with_reducible refine G.alloc ?_ _) | (with_reducible refine G.setCell ?_ (by first | (with_reducible exact Nat.le_refl _) | (simp; done) | (simp; omega) | omega) _) | (with_reducible refine G.trans ?_ (by assumption))))))).mono ?_
  rintro e w1 ⟨rfl, hG1⟩
  have g1 : G w w1 := G.trans (by (repeat' (first | (with_reducible exact G.refl _) | (with_reducible refine G.drewN ?_ _) | (with_reducible refine G.drew ?_) | (with_reducible refine G.alloc ?_ _)))) hG1
  have a5' := Lib.hid (a5.out.later hG1)
  have lt1 : w.heap.size < w1.heap.size := cell_lt (a5'.out 0 (by omega)).1
  clear a5 hG1
  have n6 := Lib.hid (Arr.new w1 HZ.out 58)
  have HI := Lib.hid (show (Tryd.prog.info? 58).map (·.size) = some (arrL (sg0 f)).toArray.size by rw [List.size_toArray, HLA.out]; exact aInfo)
  have a6 := Lib.hid (n6.out.stored (sg0 f))
  have a5'' := Lib.hid (show Arr ((w1.alloc (.cells Z 58)).setCells w1.heap.size 0 (arrL (sg0 f))) w.heap.size (fun _ => 0) by
    intro j hj
    have k := (a5'.out.later (show G w1 (w1.alloc (.cells Z 58)) by (repeat' (first | (with_reducible exact G.refl _) | (with_reducible assumption) | (with_reducible refine G.drewN ?_ _) | (with_reducible refine G.drew ?_) | (with_reducible refine G.alloc ?_ _) | (with_reducible refine G.setCell ?_ (by first | (with_reducible exact Nat.le_refl _) | (simp; done) | (simp; omega) | omega) _) | (with_reducible refine G.trans ?_ (by assumption)))))) j hj
    refine ⟨?_, by rw [World.frozen?_setCells]; exact k.2⟩
    rw [World.cell?_setCells_out _ _ _ _ _ (fun e _ => by simp only at e; omega)]
    exact k.1)
  have g2 : G w ((w1.alloc (.cells Z 58)).setCells w1.heap.size 0 (arrL (sg0 f))) := G.setCells w1.heap.size g1.size _ _ (g1.alloc _)
  have s2 : ((w1.alloc (.cells Z 58)).setCells w1.heap.size 0 (arrL (sg0 f))).heap.size = w1.heap.size + 1 := by rw [size_setCells]; simp
  have HTH := Lib.hid n6.out.there
  have hfit : (arrL (sg0 f)).toArray.size = 77 := by rw [List.size_toArray]; exact HLA.out
  have HFIT := Lib.hid hfit
  clear hfit
  generalize arrL (sg0 f) = LA at *
  go_wp2_with (refine wpList_store_mid rfl 58 _ _ rfl w1.heap.size 0 LA.toArray rfl rfl (by rw [HFIT.out]; exact HTH.out) HI.out HLO.out ?_)
  generalize (w1.alloc (.cells Z 58)).setCells w1.heap.size 0 LA = W2 at *
  refine (clashes_any a l l.length c _ rfl hl (H1.out.later g2) HS.out).mono ?_
  rintro e w3 ⟨rfl, hG3, h, hH, hC⟩
  have g3 : G w w3 := g2.trans hG3
  have A6 := Lib.hid (a6.out.later hG3)
  have A5 := Lib.hid (a5''.out.later hG3)
  have HC := Lib.hid hC
  have hlg : W2.heap.size ≤ w3.heap.size := hG3.size
  have HHH := Lib.hid hH
  clear hC hH a6 a5'' a5' n6 HTH hG3 g2 g1
  obtain ⟨b5, hb5⟩ : ∃ z : Nat, Hid (w.heap.size = z) := ⟨_, rfl⟩
  obtain ⟨b6, hb6⟩ : ∃ z : Nat, w1.heap.size = z := ⟨_, rfl⟩
  obtain ⟨g, hg0⟩ : ∃ z : Nat, W2.heap.size = z := ⟨_, rfl⟩
  obtain ⟨base, hbase⟩ : ∃ z : Nat, w3.heap.size = z := ⟨_, rfl⟩
  rw [hb5.out] at A5 lt1 ⊢
  rw [hb6] at A6 lt1 s2 ⊢
  rw [hg0] at HC hlg s2 ⊢
  rw [hbase] at hlg
  have lt6g : b6 < g := by omega
  have lt56 : b5 < b6 := by omega
  have HG0 := Lib.hid hg0
  have HB6 := Lib.hid hb6
  have hbase' : base ≤ w3.heap.size := by omega
  have HBA := Lib.hid hbase
  clear s2 hg0 hb6 hbase
  have hgb : g < base ∨ l.length = 0 := by
    by_cases e : l.length = 0
    · exact .inr e
    · have k : g < w3.heap.size := cell_lt (HC.out 0 (by omega)).1
      have := HBA.out
      exact .inl (by omega)
  go_wp2_with fail
  go_loopg [7, 19] l.length (fun q y x wr => ∃ (i : Nat) (v : Value) (M : List (Int × Bool)) (F : Int → Int), v = y ∧ x = .int .i64 i ∧ q = l.length - i ∧ i ≤ l.length ∧ M.length = i ∧ Hid (M ++ dsM (cl l) F (l.drop i) = disp f l) ∧ Hid (dsF (cl l) F (l.drop i) = carr f l) ∧ Hid (Row mkE 43 2 base wr v M) ∧ Hid (Arr wr b6 F) ∧ Hid (Arr wr b5 (fun _ => 0)) ∧ Hid (Cls wr g l.length h) ∧ G w wr ∧ base ≤ wr.heap.size)
  case atStart => exact ⟨0, _, [], sg0 f, rfl, rfl, by omega, by omega, rfl, Lib.hid rfl, Lib.hid rfl, Lib.hid (Row.nil _), A6, A5, HC, by (repeat' (first | (with_reducible exact G.refl _) | (with_reducible assumption) | (with_reducible refine G.drewN ?_ _) | (with_reducible refine G.drew ?_) | (with_reducible refine G.alloc ?_ _) | (with_reducible refine G.setCell ?_ (by first | (with_reducible exact Nat.le_refl _) | (simp; done) | (simp; omega) | omega) _) | (with_reducible refine G.trans ?_ (by assumption)))), by first | exact hbase' | (simp; exact hbase')⟩
  case round =>
    clear A6 A5 HC
    obtain ⟨i, v, M, F, rfl, rfl, hq, hi', hM, hD, hDF, hR, hA6, hA5, hCl, gr, hbs⟩ := hrel
    have HQ := Lib.hid hq
    have HM := Lib.hid hM
    clear hq
    by_cases hin : i < l.length
    · obtain ⟨⟨t, s, al, o, hd, sh⟩, hp⟩ : ∃ c, l[i]? = some c := ⟨l[i], List.getElem?_eq_getElem hin⟩
      rcases H1.out with hz | ⟨bl, of, rfl, fc⟩
      · rw [hz] at hin; exact absurd hin (by simp)
      obtain ⟨x0, x1, x2, x3, x4, x5⟩ := (fc i _ hp).later gr
      dsimp only at x0 x1 x2 x3 x4 x5
      have HP := Lib.hid hp
      obtain ⟨_, hpos, hal, _, _⟩ := HOK.out _ (List.mem_of_getElem? hp)
      dsimp only at hpos hal
      have HAL := Lib.hid hal
      have HPOS := Lib.hid hpos
      obtain ⟨P, hP⟩ : ∃ z : Int, Hid (z = ix s o) := ⟨_, rfl⟩
      have hPb : 0 ≤ P ∧ P < 77 := by rw [hP.out]; exact ix_bd hpos
      obtain ⟨p0, p1⟩ := hPb
      obtain ⟨pn, hpn⟩ : ∃ z : Nat, P = (z : Int) := ⟨P.toNat, by omega⟩
      have hpn2 : P.toNat = pn := by omega
      have p2 : pn < 77 := by omega
      have HCC := Lib.hid (show h i = cl l ⟨t, s, al, o, hd, sh⟩ from Bool.eq_iff_iff.2 ((HHH.out i).trans (hit_all hp)))
      obtain ⟨yc, yf⟩ := hCl.out i hin
      obtain ⟨zc6, zf6⟩ := hA6.out pn p2
      rw [← hpn] at zc6
      obtain ⟨C, hC⟩ : ∃ z : Bool, Hid (z = h i) := ⟨_, rfl⟩
      rw [← hC.out] at yc HCC
      obtain ⟨FP, hFP⟩ : ∃ z : Int, Hid (z = F P) := ⟨_, rfl⟩
      rw [← hFP.out] at zc6
      have HPN := Lib.hid hpn
      clear fc hp hpos hal yf zf6 hpn
      have b1 : (0 : Int) ≤ (i : Int) := by omega
      have b2 : (i : Int) < (l.length : Int) := by omega
      have q1 := IntWalk.i64_in ((i : Int) + 1) (by omega)
      have gs : g < base := by omega
      have lt6 := cell_lt zc6
      simp only at lt6
      obtain ⟨D, hDD⟩ : ∃ z : Bool, Hid (z = nee (cl l ⟨t, s, al, o, hd, sh⟩) ⟨t, s, al, o, hd, sh⟩ F) := ⟨_, rfl⟩
      obtain ⟨K, hK⟩ : ∃ z : Int, Hid (z = mK D ⟨t, s, al, o, hd, sh⟩) := ⟨_, rfl⟩
      obtain ⟨PB, hPB⟩ : ∃ z : Bool, Hid (z = mP D ⟨t, s, al, o, hd, sh⟩) := ⟨_, rfl⟩
      have HD2 := Lib.hid (show (M ++ [(K, PB)]) ++ dsM (cl l) (nx K ⟨t, s, al, o, hd, sh⟩ F) (l.drop (i + 1)) = disp f l by
        rw [← hD.out, dsM_step HP.out, ← hDD.out, ← hK.out, ← hPB.out, List.append_assoc]; rfl)
      have HDF2 := Lib.hid (show dsF (cl l) (nx K ⟨t, s, al, o, hd, sh⟩ F) (l.drop (i + 1)) = carr f l by
        rw [← hDF.out, dsF_step HP.out, ← hDD.out, ← hK.out])
      have HXP := Lib.hid (show nx K ⟨t, s, al, o, hd, sh⟩ F = if K = 0 then F else upd F P al by unfold nx; rw [hP.out])
      have HDC := Lib.hid (show D = (C || (!hd && decide (al ≠ FP))) by rw [hDD.out, ← HCC.out, hFP.out, hP.out]; rfl)
      clear hD hDF hDD hFP hC HCC
      try clear HCC
      by_cases hC1 : C = true
      · subst hC1
        obtain rfl : D = true := HDC.out
        clear HDC
        have HK := Lib.hid hK.out.symm
        have HPB := Lib.hid hPB.out.symm
        have K0 : ¬ K = 0 := fun e => by
          have := (mK_z HAL.out).1 (hK.out.symm.trans e)
          cases this.1
        have b3 : (K == 0) = false := beq_false_of_ne K0
        have b4 : (K != 0) = true := by simp [bne, b3]
        have HK0 := Lib.hid K0
        clear K0
        go_wp2_with fail
        refine (index_any s o _ HPOS.out).mono ?_
        rintro e w4 ⟨rfl, rfl⟩
        rw [← hP.out]
        go_wp2_with fail
        have gW1 : G wr (wr.alloc (.cells #[.int .i64 t, .int .i64 s, .int .i64 al, .int .i64 o, .bool hd, .int .i64 sh] 65)) := by (repeat' (first | (with_reducible exact G.refl _) | (with_reducible assumption) | (with_reducible refine G.drewN ?_ _) | (with_reducible refine G.drew ?_) | (with_reducible refine G.alloc ?_ _) | (with_reducible refine G.setCell ?_ (by first | (with_reducible exact Nat.le_refl _) | (simp; done) | (simp; omega) | omega) _) | (with_reducible refine G.trans ?_ (by assumption))))
        have hN : Hid (Nt6 (wr.alloc (.cells #[.int .i64 t, .int .i64 s, .int .i64 al, .int .i64 o, .bool hd, .int .i64 sh] 65)) wr.heap.size 0 ⟨t, s, al, o, hd, sh⟩) := Lib.hid (six_at (W := wr) rfl (G.refl _))
        have yc1 := gW1.at yc
        have zc1 := gW1.at zc6
        obtain ⟨u0, u1, u2, u3, u4, u5⟩ := hN.out
        dsimp only at u0 u1 u2 u3 u4 u5
        simp only [Nat.zero_add] at u1 u2 u3 u4 u5
        generalize wr.alloc (.cells #[.int .i64 t, .int .i64 s, .int .i64 al, .int .i64 o, .bool hd, .int .i64 sh] 65) = W1 at *
        have ltn := cell_lt u0
        have ltg := cell_lt yc1
        have lt61 := cell_lt zc1
        simp only at ltn ltg lt61
        generalize wr.heap.size = bn at *
        refine wp_region_held_drew (S := fun w' => w'.cell? ⟨bn, 0, none⟩ = some (.int .i64 t) ∧ w'.cell? ⟨bn, 1, none⟩ = some (.int .i64 s) ∧ w'.cell? ⟨bn, 2, none⟩ = some (.int .i64 al) ∧ w'.cell? ⟨bn, 3, none⟩ = some (.int .i64 o) ∧ w'.cell? ⟨bn, 4, none⟩ = some (.bool hd) ∧ w'.cell? ⟨bn, 5, none⟩ = some (.int .i64 sh) ∧ w'.cell? ⟨g, i, none⟩ = some (.bool true) ∧ w'.cell? ⟨b6, pn, none⟩ = some (.int .i64 FP)) (by kernel_rfl) (by ((try dsimp only); first | (with_reducible assumption) | ((repeat' (with_reducible apply And.intro)) <;> go_simp))) (fun hH0 => ?_)
        refine wpAnyH_take (i := 0) (oi := { dst := some 31, op := Go.Op.load 65 (Go.Operand.tmp 10), type := 65, pos := "accidental.go:81", after := #[], guard := none }) (v := ?_) rfl (by kernel_rfl) (by kernel_rfl) (by kernel_rfl) (fun _ _ _ h => h) (Or.inl ⟨by rfl, ?_⟩) (by assumption) ?_
        rotate_left
        · (intro w hSw; (try dsimp only at hSw); go_simp) <;> (with_reducible rfl)
        simp only [Act.put, List.setIfInBounds_toArray, List.set_cons_zero, List.set_cons_succ]
        refine wpAnyH_take (i := 1) (oi := { dst := some 32, op := Go.Op.move (Go.Operand.tmp 8), type := 76, pos := "accidental.go:81", after := #[], guard := none }) (v := ?_) rfl (by kernel_rfl) (by kernel_rfl) (by kernel_rfl) (fun _ _ _ h => h) (Or.inl ⟨by rfl, ?_⟩) (by assumption) ?_
        rotate_left
        · (intro w hSw; (try dsimp only at hSw); go_simp) <;> (with_reducible rfl)
        simp only [Act.put, List.setIfInBounds_toArray, List.set_cons_zero, List.set_cons_succ]
        refine wpAnyH_take (i := 2) (oi := { dst := some 33, op := Go.Op.move (Go.Operand.tmp 9), type := 3, pos := "accidental.go:81", after := #[], guard := none }) (v := ?_) rfl (by kernel_rfl) (by kernel_rfl) (by kernel_rfl) (fun _ _ _ h => h) (Or.inl ⟨by rfl, ?_⟩) (by assumption) ?_
        rotate_left
        · (intro w hSw; (try dsimp only at hSw); go_simp) <;> (with_reducible rfl)
        simp only [Act.put, List.setIfInBounds_toArray, List.set_cons_zero, List.set_cons_succ]
        refine wpAnyH_take (i := 3) (oi := { dst := some 34, op := Go.Op.indexAddr 76 (Go.Operand.tmp 32) (Go.Operand.tmp 33), type := 0, pos := "accidental.go:81", after := #[{ on := 1, ground := Go.Ground.data }, { on := 2, ground := Go.Ground.data }], guard := none }) (v := ?_) rfl (by kernel_rfl) (by kernel_rfl) (by kernel_rfl) (fun _ _ _ h => h) (Or.inl ⟨by rfl, ?_⟩) (by assumption) ?_
        rotate_left
        · (intro w hSw; (try dsimp only at hSw); go_simp) <;> (with_reducible rfl)
        simp only [Act.put, List.setIfInBounds_toArray, List.set_cons_zero, List.set_cons_succ]
        refine wpAnyH_take (i := 4) (oi := { dst := some 35, op := Go.Op.load 4 (Go.Operand.tmp 34), type := 4, pos := "accidental.go:81", after := #[{ on := 3, ground := Go.Ground.data }], guard := none }) (v := ?_) rfl (by kernel_rfl) (by kernel_rfl) (by kernel_rfl) (fun _ _ _ h => h) (Or.inl ⟨by rfl, ?_⟩) (by assumption) ?_
        rotate_left
        · (intro w hSw; (try dsimp only at hSw); go_simp) <;> (with_reducible rfl)
        simp only [Act.put, List.setIfInBounds_toArray, List.set_cons_zero, List.set_cons_succ]
        refine wpAnyH_take (i := 5) (oi := { dst := some 36, op := Go.Op.move (Go.Operand.tmp 35), type := 4, pos := "accidental.go:81", after := #[{ on := 4, ground := Go.Ground.data }], guard := none }) (v := ?_) rfl (by kernel_rfl) (by kernel_rfl) (by kernel_rfl) (fun _ _ _ h => h) (Or.inl ⟨by rfl, ?_⟩) (by assumption) ?_
        rotate_left
        · (intro w hSw; (try dsimp only at hSw); go_simp) <;> (with_reducible rfl)
        simp only [Act.put, List.setIfInBounds_toArray, List.set_cons_zero, List.set_cons_succ]
        refine wpAnyH_take (i := 6) (oi := { dst := some 37, op := Go.Op.fieldAddr 65 (Go.Operand.tmp 10) 2, type := 0, pos := "accidental.go:81", after := #[{ on := 5, ground := Go.Ground.guard }], guard := some (5, false) }) (v := undef) rfl (by kernel_rfl) (by kernel_rfl) (by kernel_rfl) (fun _ _ _ h => h) (Or.inr ⟨by rfl, rfl⟩) (by assumption) ?_
        simp only [Act.put, List.setIfInBounds_toArray, List.set_cons_zero, List.set_cons_succ]
        refine wpAnyH_take (i := 7) (oi := { dst := some 38, op := Go.Op.load 4 (Go.Operand.tmp 37), type := 4, pos := "accidental.go:81", after := #[{ on := 6, ground := Go.Ground.data }, { on := 5, ground := Go.Ground.guard }], guard := some (5, false) }) (v := undef) rfl (by kernel_rfl) (by kernel_rfl) (by kernel_rfl) (fun _ _ _ h => h) (Or.inr ⟨by rfl, rfl⟩) (by assumption) ?_
        simp only [Act.put, List.setIfInBounds_toArray, List.set_cons_zero, List.set_cons_succ]
        refine wpAnyH_take (i := 8) (oi := { dst := some 39, op := Go.Op.unOp Go.UnOp.not 4 (Go.Operand.tmp 38), type := 4, pos := "accidental.go:81", after := #[{ on := 7, ground := Go.Ground.data }, { on := 5, ground := Go.Ground.guard }], guard := some (5, false) }) (v := undef) rfl (by kernel_rfl) (by kernel_rfl) (by kernel_rfl) (fun _ _ _ h => h) (Or.inr ⟨by rfl, rfl⟩) (by assumption) ?_
        simp only [Act.put, List.setIfInBounds_toArray, List.set_cons_zero, List.set_cons_succ]
        refine wpAnyH_take (i := 9) (oi := { dst := some 40, op := Go.Op.move (Go.Operand.tmp 39), type := 4, pos := "accidental.go:81", after := #[{ on := 8, ground := Go.Ground.data }, { on := 5, ground := Go.Ground.chain }, { on := 5, ground := Go.Ground.guard }], guard := some (5, false) }) (v := undef) rfl (by kernel_rfl) (by kernel_rfl) (by kernel_rfl) (fun _ _ _ h => h) (Or.inr ⟨by rfl, rfl⟩) (by assumption) ?_
        simp only [Act.put, List.setIfInBounds_toArray, List.set_cons_zero, List.set_cons_succ]
        refine wpAnyH_take (i := 10) (oi := { dst := some 41, op := Go.Op.fieldAddr 65 (Go.Operand.tmp 10) 1, type := 0, pos := "accidental.go:81", after := #[{ on := 9, ground := Go.Ground.guard }], guard := some (9, true) }) (v := undef) rfl (by kernel_rfl) (by kernel_rfl) (by kernel_rfl) (fun _ _ _ h => h) (Or.inr ⟨by rfl, rfl⟩) (by assumption) ?_
        simp only [Act.put, List.setIfInBounds_toArray, List.set_cons_zero, List.set_cons_succ]
        refine wpAnyH_take (i := 11) (oi := { dst := some 42, op := Go.Op.fieldAddr 52 (Go.Operand.tmp 41) 1, type := 0, pos := "accidental.go:81", after := #[{ on := 10, ground := Go.Ground.data }, { on := 9, ground := Go.Ground.guard }], guard := some (9, true) }) (v := undef) rfl (by kernel_rfl) (by kernel_rfl) (by kernel_rfl) (fun _ _ _ h => h) (Or.inr ⟨by rfl, rfl⟩) (by assumption) ?_
        simp only [Act.put, List.setIfInBounds_toArray, List.set_cons_zero, List.set_cons_succ]
        refine wpAnyH_take (i := 12) (oi := { dst := some 43, op := Go.Op.load 3 (Go.Operand.tmp 42), type := 3, pos := "accidental.go:81", after := #[{ on := 11, ground := Go.Ground.data }, { on := 9, ground := Go.Ground.guard }], guard := some (9, true) }) (v := undef) rfl (by kernel_rfl) (by kernel_rfl) (by kernel_rfl) (fun _ _ _ h => h) (Or.inr ⟨by rfl, rfl⟩) (by assumption) ?_
        simp only [Act.put, List.setIfInBounds_toArray, List.set_cons_zero, List.set_cons_succ]
        refine wpAnyH_take (i := 13) (oi := { dst := some 44, op := Go.Op.move (Go.Operand.tmp 11), type := 3, pos := "accidental.go:81", after := #[{ on := 9, ground := Go.Ground.guard }], guard := some (9, true) }) (v := undef) rfl (by kernel_rfl) (by kernel_rfl) (by kernel_rfl) (fun _ _ _ h => h) (Or.inr ⟨by rfl, rfl⟩) (by assumption) ?_
        simp only [Act.put, List.setIfInBounds_toArray, List.set_cons_zero, List.set_cons_succ]
        refine wpAnyH_take (i := 14) (oi := { dst := some 45, op := Go.Op.indexAddr 58 (Go.Operand.tmp 6) (Go.Operand.tmp 44), type := 0, pos := "accidental.go:81", after := #[{ on := 13, ground := Go.Ground.data }, { on := 9, ground := Go.Ground.guard }], guard := some (9, true) }) (v := undef) rfl (by kernel_rfl) (by kernel_rfl) (by kernel_rfl) (fun _ _ _ h => h) (Or.inr ⟨by rfl, rfl⟩) (by assumption) ?_
        simp only [Act.put, List.setIfInBounds_toArray, List.set_cons_zero, List.set_cons_succ]
        refine wpAnyH_take (i := 15) (oi := { dst := some 46, op := Go.Op.load 3 (Go.Operand.tmp 45), type := 3, pos := "accidental.go:81", after := #[{ on := 14, ground := Go.Ground.data }, { on := 9, ground := Go.Ground.guard }], guard := some (9, true) }) (v := undef) rfl (by kernel_rfl) (by kernel_rfl) (by kernel_rfl) (fun _ _ _ h => h) (Or.inr ⟨by rfl, rfl⟩) (by assumption) ?_
        simp only [Act.put, List.setIfInBounds_toArray, List.set_cons_zero, List.set_cons_succ]
        refine wpAnyH_take (i := 16) (oi := { dst := some 47, op := Go.Op.binOp Go.BinOp.neq 3 (Go.Operand.tmp 43) (Go.Operand.tmp 46) 3, type := 4, pos := "accidental.go:81", after := #[{ on := 12, ground := Go.Ground.data }, { on := 15, ground := Go.Ground.data }, { on := 9, ground := Go.Ground.guard }], guard := some (9, true) }) (v := undef) rfl (by kernel_rfl) (by kernel_rfl) (by kernel_rfl) (fun _ _ _ h => h) (Or.inr ⟨by rfl, rfl⟩) (by assumption) ?_
        simp only [Act.put, List.setIfInBounds_toArray, List.set_cons_zero, List.set_cons_succ]
        refine wpAnyH_take (i := 17) (oi := { dst := some 48, op := Go.Op.pick (Go.Operand.tmp 40) (Go.Operand.tmp 47) (Go.Operand.const (Go.Value.bool false)), type := 4, pos := "accidental.go:81", after := #[{ on := 9, ground := Go.Ground.data }, { on := 16, ground := Go.Ground.data }, { on := 5, ground := Go.Ground.guard }], guard := some (5, false) }) (v := undef) rfl (by kernel_rfl) (by kernel_rfl) (by kernel_rfl) (fun _ _ _ h => h) (Or.inr ⟨by rfl, rfl⟩) (by assumption) ?_
        simp only [Act.put, List.setIfInBounds_toArray, List.set_cons_zero, List.set_cons_succ]
        refine wpAnyH_take (i := 18) (oi := { dst := some 49, op := Go.Op.pick (Go.Operand.tmp 36) (Go.Operand.const (Go.Value.bool true)) (Go.Operand.tmp 48), type := 4, pos := "accidental.go:81", after := #[{ on := 5, ground := Go.Ground.data }, { on := 17, ground := Go.Ground.data }], guard := none }) (v := ?_) rfl (by kernel_rfl) (by kernel_rfl) (by kernel_rfl) (fun _ _ _ h => h) (Or.inl ⟨by rfl, ?_⟩) (by assumption) ?_
        rotate_left
        · (intro w hSw; (try dsimp only at hSw); go_simp) <;> (with_reducible rfl)
        simp only [Act.put, List.setIfInBounds_toArray, List.set_cons_zero, List.set_cons_succ]
        refine wpAnyH_ready (rs := [19, 20]) (by kernel_rfl) (by simp) ?_
        refine (AllReadyH.cons (o := { dst := some 50, op := Go.Op.call { callee := Go.Callee.value (Go.Operand.func 38), args := #[Go.Operand.tmp 31, Go.Operand.tmp 49], argTypes := #[65, 4] }, type := 43, pos := "accidental.go:81", after := #[{ on := 0, ground := Go.Ground.data }, { on := 18, ground := Go.Ground.data }, { on := 9, ground := Go.Ground.chain }], guard := none }) rfl (fun Kc hKc => ?_) (AllReadyH.cons (o := { dst := some 12, op := Go.Op.alloc 43, type := 0, pos := "accidental.go:81", after := #[], guard := none }) rfl (fun Kc hKc => ?_) AllReadyH.nil))
        · go_simp
          go_at_call 38
          refine (mark_any _ _ _ _ _ _ _ _ HAL.out).mono ?_
          rintro e w4 ⟨rfl, hG4⟩
          rw [HK.out, HPB.out]
          have gq : G W1 w4 := G.trans (by (repeat' (first | (with_reducible exact G.refl _) | (with_reducible refine G.drewN ?_ _) | (with_reducible refine G.drew ?_) | (with_reducible refine G.alloc ?_ _)))) hG4
          obtain ⟨v0, v1, v2, v3, v4, v5⟩ := hN.out.later gq
          dsimp only at v0 v1 v2 v3 v4 v5
          simp only [Nat.zero_add] at v1 v2 v3 v4 v5
          have yc' := gq.at yc1
          have zc' := gq.at zc1
          refine hKc.out _ _ (by ((try dsimp only); first | (with_reducible assumption) | ((repeat' (with_reducible apply And.intro)) <;> go_simp))) (fun hH1 => ?_)
          clear hKc Kc hH0
          clear v0 v1 v2 v3 v4 v5 yc' zc'
          have g4 := gq
          clear gq hG4
          refine wpAnyH_ready (rs := [20]) (by kernel_rfl) (by simp) ?_
          refine (AllReadyH.cons (o := { dst := some 12, op := Go.Op.alloc 43, type := 0, pos := "accidental.go:81", after := #[], guard := none }) rfl (fun Kc hKc => ?_) AllReadyH.nil)
          go_simp
          have gq : G W1 (w4.alloc (.cells #[.int .i64 0, .bool false] 43)) := g4.alloc _
          obtain ⟨⟨m0, m1⟩, m2, m3⟩ := two_fr (w1 := w4.alloc (.cells #[.int .i64 0, .bool false] 43)) rfl (G.refl _)
          have hbm : W1.heap.size ≤ w4.heap.size := g4.size
          obtain ⟨v0, v1, v2, v3, v4, v5⟩ := hN.out.later gq
          dsimp only at v0 v1 v2 v3 v4 v5
          simp only [Nat.zero_add] at v1 v2 v3 v4 v5
          have yc' := gq.at yc1
          have zc' := gq.at zc1
          refine hKc.out _ _ (by ((try dsimp only); first | (with_reducible assumption) | ((repeat' (with_reducible apply And.intro)) <;> go_simp))) (fun hH2 => ?_)
          clear hKc Kc hH1
          clear v0 v1 v2 v3 v4 v5 yc' zc'
          generalize w4.heap.size = bm at *
          generalize w4.alloc (.cells #[.int .i64 0, .bool false] 43) = w5 at *
          clear g4
          refine wpAnyH_ready (rs := [21]) (by kernel_rfl) (by simp) ?_
          refine (AllReadyH.cons (o := { dst := none, op := Go.Op.store 43 (Go.Operand.tmp 12) (Go.Operand.tmp 50), type := 0, pos := "accidental.go:81", after := #[{ on := 20, ground := Go.Ground.data }, { on := 19, ground := Go.Ground.data }, { on := 19, ground := Go.Ground.chain }, { on := 0, ground := Go.Ground.phase }, { on := 1, ground := Go.Ground.phase }, { on := 2, ground := Go.Ground.phase }, { on := 3, ground := Go.Ground.phase }, { on := 4, ground := Go.Ground.phase }, { on := 5, ground := Go.Ground.phase }, { on := 6, ground := Go.Ground.phase }, { on := 7, ground := Go.Ground.phase }, { on := 8, ground := Go.Ground.phase }, { on := 9, ground := Go.Ground.phase }, { on := 10, ground := Go.Ground.phase }, { on := 11, ground := Go.Ground.phase }, { on := 12, ground := Go.Ground.phase }, { on := 13, ground := Go.Ground.phase }, { on := 14, ground := Go.Ground.phase }, { on := 15, ground := Go.Ground.phase }, { on := 16, ground := Go.Ground.phase }, { on := 17, ground := Go.Ground.phase }, { on := 18, ground := Go.Ground.phase }, { on := 19, ground := Go.Ground.phase }, { on := 20, ground := Go.Ground.phase }], guard := none }) rfl (fun Kc hKc => ?_) AllReadyH.nil)
          obtain ⟨v0, v1, v2, v3, v4, v5⟩ := hN.out.later gq
          dsimp only at v0 v1 v2 v3 v4 v5
          simp only [Nat.zero_add] at v1 v2 v3 v4 v5
          have yc' := gq.at yc1
          have zc' := gq.at zc1
          have far : ∀ {q j : Nat} {u : Value}, bm ≠ q → w5.cell? ⟨q, j, none⟩ = some u → ((w5.setCell ⟨bm, 0, none⟩ (.int .i64 K)).setCell ⟨bm, 1, none⟩ (.bool PB)).cell? ⟨q, j, none⟩ = some u := fun h1 h2 => by
            rw [World.cell?_setCell_far _ _ _ _ h1, World.cell?_setCell_far _ _ _ _ h1]; exact h2
          go_simp
          refine hKc.out _ _ ⟨far (by omega) v0, far (by omega) v1, far (by omega) v2, far (by omega) v3, far (by omega) v4, far (by omega) v5, far (by omega) yc', far (by omega) zc'⟩ (fun hHs => ?_)
          clear hKc Kc hHs far v0 v1 v2 v3 v4 v5 yc' zc'
          refine wpAnyH_done (by kernel_rfl) ?_ _
          have g5 := gq
          clear gq
          obtain ⟨cK, cP⟩ := two_set (u := .int .i64 K) (v := .bool PB) m0 m1
          have gZ : G W1 ((w5.setCell ⟨bm, 0, none⟩ (.int .i64 K)).setCell ⟨bm, 1, none⟩ (.bool PB)) := (g5.setCell (p := ⟨bm, 0, none⟩) hbm _).setCell (p := ⟨bm, 1, none⟩) hbm _
          generalize (w5.setCell ⟨bm, 0, none⟩ (.int .i64 K)).setCell ⟨bm, 1, none⟩ (.bool PB) = W5 at *
          have gW := gW1.trans gZ
          have hsz5 := gZ.size
          have R5 := Lib.hid (hR.out.later gW)
          have A65 := Lib.hid (hA6.out.later gW)
          have A55 := Lib.hid (hA5.out.later gW)
          have C5 := Lib.hid (hCl.out.later gW)
          have gw5 := Lib.hid (gr.trans gW)
          obtain ⟨u0, u1, u2, u3, u4, u5⟩ := (hN.out.later gZ)
          dsimp only at u0 u1 u2 u3 u4 u5
          simp only [Nat.zero_add] at u1 u2 u3 u4 u5
          obtain ⟨s6, f6⟩ := A65.out pn p2
          rw [← HPN.out] at s6
          have A66 := Lib.hid (A65.out.set p0 p1 al)
          rw [hpn2] at A66
          have R6 := Lib.hid (R5.out.far (b := b6) (by omega) pn (.int .i64 al))
          have C6 := Lib.hid (show Cls (W5.setCell ⟨b6, pn, none⟩ (.int .i64 al)) g l.length h by
            intro j hj
            refine ⟨?_, by simp [go_sem]; exact (C5.out j hj).2⟩
            rw [World.cell?_setCell_far _ _ _ _ (show b6 ≠ g by omega)]; exact (C5.out j hj).1)
          have A56 := Lib.hid (show Arr (W5.setCell ⟨b6, pn, none⟩ (.int .i64 al)) b5 (fun _ => 0) by
            intro j hj
            refine ⟨?_, by simp [go_sem]; exact (A55.out j hj).2⟩
            rw [World.cell?_setCell_far _ _ _ _ (show b6 ≠ b5 by omega)]; exact (A55.out j hj).1)
          have gw6 := Lib.hid (gw5.out.setCell (p := ⟨b6, pn, none⟩) (by have := hb5.out; show w.heap.size ≤ b6; omega) (.int .i64 al))
          have cK6 : (W5.setCell ⟨b6, pn, none⟩ (.int .i64 al)).cell? ⟨bm, 0, none⟩ = some (.int .i64 K) := by rw [World.cell?_setCell_far _ _ _ _ (show b6 ≠ bm by omega)]; exact cK
          have cP6 : (W5.setCell ⟨b6, pn, none⟩ (.int .i64 al)).cell? ⟨bm, 1, none⟩ = some (.bool PB) := by rw [World.cell?_setCell_far _ _ _ _ (show b6 ≠ bm by omega)]; exact cP
          go_wp2_with (at_builtin; refine wpList_append_own _ rfl _ _ 24 rfl base 43 i0 (.agg #[.int .i64 0, .bool false]) 2 16 Tryd.underlying24 hi hz0 hz1 hz2 rfl (by decide) v M.length (M.flatMap mkE) rfl (R6.out.later (by (repeat' (first | (with_reducible exact G.refl _) | (with_reducible assumption) | (with_reducible refine G.drewN ?_ _) | (with_reducible refine G.drew ?_) | (with_reducible refine G.alloc ?_ _) | (with_reducible refine G.setCell ?_ (by first | (with_reducible exact Nat.le_refl _) | (simp; done) | (simp; omega) | omega) _) | (with_reducible refine G.trans ?_ (by assumption)))))) ⟨W5.heap.size, 0, none⟩ 1 1 [.int .i64 K, .bool PB] rfl rfl (new_add _ _ [.int .i64 K, .bool PB] _ (by simp [go_sem])) (by simp [Value.oneCell']) (by unfold maxLen; omega) (by omega) (by simp [go_sem]; omega) ?_; intro v' w6 hown' hgrow _)
          have RN := Lib.hid (Row.more (enc := mkE) (M := M) (x := (K, PB)) hown')
          have AN := Lib.hid (show Arr w6 b6 (nx K ⟨t, s, al, o, hd, sh⟩ F) by rw [HXP.out, if_neg HK0.out]; exact (A66.out).more hgrow (Row.ne R6.out (by omega)))
          have A5N := Lib.hid ((A56.out).more hgrow (Row.ne R6.out (by omega)))
          have CN := Lib.hid ((C6.out).more hgrow (Row.ne R6.out (by omega)))
          have gN : G w w6 := (gw6.out).more hgrow (fun k hk => by have := Row.own R6.out k hk; have := hb5.out; omega)
          have hsN := hgrow.size
          go_roundg (l.length - (i + 1))
          case measure => have := HQ.out; omega
          case rel => exact ⟨i + 1, v', M ++ [(K, PB)], _, rfl, by first | rfl | simp, rfl, by omega, by rw [List.length_append, HM.out]; rfl, HD2, HDF2, RN, AN, A5N, CN, gN, by simp [go_sem] at hsN; omega⟩
        · go_simp
          have gq : G W1 (W1.drew.alloc (.cells #[.int .i64 0, .bool false] 43)) := by (repeat' (first | (with_reducible exact G.refl _) | (with_reducible refine G.drewN ?_ _) | (with_reducible refine G.drew ?_) | (with_reducible refine G.alloc ?_ _)))
          obtain ⟨v0, v1, v2, v3, v4, v5⟩ := hN.out.later gq
          dsimp only at v0 v1 v2 v3 v4 v5
          simp only [Nat.zero_add] at v1 v2 v3 v4 v5
          have yc' := gq.at yc1
          have zc' := gq.at zc1
          refine hKc.out _ _ (by ((try dsimp only); first | (with_reducible assumption) | ((repeat' (with_reducible apply And.intro)) <;> go_simp))) (fun hH4 => ?_)
          clear hKc Kc hH0
          clear v0 v1 v2 v3 v4 v5 yc' zc'
          have g4 := gq
          clear gq
          refine wpAnyH_ready (rs := [19]) (by kernel_rfl) (by simp) ?_
          refine (AllReadyH.cons (o := { dst := some 50, op := Go.Op.call { callee := Go.Callee.value (Go.Operand.func 38), args := #[Go.Operand.tmp 31, Go.Operand.tmp 49], argTypes := #[65, 4] }, type := 43, pos := "accidental.go:81", after := #[{ on := 0, ground := Go.Ground.data }, { on := 18, ground := Go.Ground.data }, { on := 9, ground := Go.Ground.chain }], guard := none }) rfl (fun Kc hKc => ?_) AllReadyH.nil)
          go_simp
          go_at_call 38
          refine (mark_any _ _ _ _ _ _ _ _ HAL.out).mono ?_
          rintro e w5 ⟨rfl, hG5⟩
          rw [HK.out, HPB.out]
          have gq : G W1 w5 := G.trans (by (repeat' (first | (with_reducible exact G.refl _) | (with_reducible refine G.drewN ?_ _) | (with_reducible refine G.drew ?_) | (with_reducible refine G.alloc ?_ _)))) hG5
          have hG6 : G (W1.alloc (.cells #[.int .i64 0, .bool false] 43)) w5 := G.trans (G.drew (G.refl _)) hG5
          obtain ⟨⟨m0, m1⟩, m2, m3⟩ := two_fr rfl hG6
          obtain ⟨bm, hbmv⟩ : ∃ z : Nat, W1.heap.size = z := ⟨_, rfl⟩
          have hbm : W1.heap.size ≤ bm := by omega
          rw [hbmv] at m0 m1 m2 m3
          try rw [hbmv]
          obtain ⟨v0, v1, v2, v3, v4, v5⟩ := hN.out.later gq
          dsimp only at v0 v1 v2 v3 v4 v5
          simp only [Nat.zero_add] at v1 v2 v3 v4 v5
          have yc' := gq.at yc1
          have zc' := gq.at zc1
          refine hKc.out _ _ (by ((try dsimp only); first | (with_reducible assumption) | ((repeat' (with_reducible apply And.intro)) <;> go_simp))) (fun hH5 => ?_)
          clear hKc Kc hH4
          clear v0 v1 v2 v3 v4 v5 yc' zc'
          clear hG5 hG6 g4
          refine wpAnyH_ready (rs := [21]) (by kernel_rfl) (by simp) ?_
          refine (AllReadyH.cons (o := { dst := none, op := Go.Op.store 43 (Go.Operand.tmp 12) (Go.Operand.tmp 50), type := 0, pos := "accidental.go:81", after := #[{ on := 20, ground := Go.Ground.data }, { on := 19, ground := Go.Ground.data }, { on := 19, ground := Go.Ground.chain }, { on := 0, ground := Go.Ground.phase }, { on := 1, ground := Go.Ground.phase }, { on := 2, ground := Go.Ground.phase }, { on := 3, ground := Go.Ground.phase }, { on := 4, ground := Go.Ground.phase }, { on := 5, ground := Go.Ground.phase }, { on := 6, ground := Go.Ground.phase }, { on := 7, ground := Go.Ground.phase }, { on := 8, ground := Go.Ground.phase }, { on := 9, ground := Go.Ground.phase }, { on := 10, ground := Go.Ground.phase }, { on := 11, ground := Go.Ground.phase }, { on := 12, ground := Go.Ground.phase }, { on := 13, ground := Go.Ground.phase }, { on := 14, ground := Go.Ground.phase }, { on := 15, ground := Go.Ground.phase }, { on := 16, ground := Go.Ground.phase }, { on := 17, ground := Go.Ground.phase }, { on := 18, ground := Go.Ground.phase }, { on := 19, ground := Go.Ground.phase }, { on := 20, ground := Go.Ground.phase }], guard := none }) rfl (fun Kc hKc => ?_) AllReadyH.nil)
          obtain ⟨v0, v1, v2, v3, v4, v5⟩ := hN.out.later gq
          dsimp only at v0 v1 v2 v3 v4 v5
          simp only [Nat.zero_add] at v1 v2 v3 v4 v5
          have yc' := gq.at yc1
          have zc' := gq.at zc1
          have far : ∀ {q j : Nat} {u : Value}, bm ≠ q → w5.cell? ⟨q, j, none⟩ = some u → ((w5.setCell ⟨bm, 0, none⟩ (.int .i64 K)).setCell ⟨bm, 1, none⟩ (.bool PB)).cell? ⟨q, j, none⟩ = some u := fun h1 h2 => by
            rw [World.cell?_setCell_far _ _ _ _ h1, World.cell?_setCell_far _ _ _ _ h1]; exact h2
          go_simp
          refine hKc.out _ _ ⟨far (by omega) v0, far (by omega) v1, far (by omega) v2, far (by omega) v3, far (by omega) v4, far (by omega) v5, far (by omega) yc', far (by omega) zc'⟩ (fun hHs => ?_)
          clear hKc Kc hHs far v0 v1 v2 v3 v4 v5 yc' zc'
          refine wpAnyH_done (by kernel_rfl) ?_ _
          have g5 := gq
          clear gq
          obtain ⟨cK, cP⟩ := two_set (u := .int .i64 K) (v := .bool PB) m0 m1
          have gZ : G W1 ((w5.setCell ⟨bm, 0, none⟩ (.int .i64 K)).setCell ⟨bm, 1, none⟩ (.bool PB)) := (g5.setCell (p := ⟨bm, 0, none⟩) hbm _).setCell (p := ⟨bm, 1, none⟩) hbm _
          generalize (w5.setCell ⟨bm, 0, none⟩ (.int .i64 K)).setCell ⟨bm, 1, none⟩ (.bool PB) = W5 at *
          have gW := gW1.trans gZ
          have hsz5 := gZ.size
          have R5 := Lib.hid (hR.out.later gW)
          have A65 := Lib.hid (hA6.out.later gW)
          have A55 := Lib.hid (hA5.out.later gW)
          have C5 := Lib.hid (hCl.out.later gW)
          have gw5 := Lib.hid (gr.trans gW)
          obtain ⟨u0, u1, u2, u3, u4, u5⟩ := (hN.out.later gZ)
          dsimp only at u0 u1 u2 u3 u4 u5
          simp only [Nat.zero_add] at u1 u2 u3 u4 u5
          obtain ⟨s6, f6⟩ := A65.out pn p2
          rw [← HPN.out] at s6
          have A66 := Lib.hid (A65.out.set p0 p1 al)
          rw [hpn2] at A66
          have R6 := Lib.hid (R5.out.far (b := b6) (by omega) pn (.int .i64 al))
          have C6 := Lib.hid (show Cls (W5.setCell ⟨b6, pn, none⟩ (.int .i64 al)) g l.length h by
            intro j hj
            refine ⟨?_, by simp [go_sem]; exact (C5.out j hj).2⟩
            rw [World.cell?_setCell_far _ _ _ _ (show b6 ≠ g by omega)]; exact (C5.out j hj).1)
          have A56 := Lib.hid (show Arr (W5.setCell ⟨b6, pn, none⟩ (.int .i64 al)) b5 (fun _ => 0) by
            intro j hj
            refine ⟨?_, by simp [go_sem]; exact (A55.out j hj).2⟩
            rw [World.cell?_setCell_far _ _ _ _ (show b6 ≠ b5 by omega)]; exact (A55.out j hj).1)
          have gw6 := Lib.hid (gw5.out.setCell (p := ⟨b6, pn, none⟩) (by have := hb5.out; show w.heap.size ≤ b6; omega) (.int .i64 al))
          have cK6 : (W5.setCell ⟨b6, pn, none⟩ (.int .i64 al)).cell? ⟨bm, 0, none⟩ = some (.int .i64 K) := by rw [World.cell?_setCell_far _ _ _ _ (show b6 ≠ bm by omega)]; exact cK
          have cP6 : (W5.setCell ⟨b6, pn, none⟩ (.int .i64 al)).cell? ⟨bm, 1, none⟩ = some (.bool PB) := by rw [World.cell?_setCell_far _ _ _ _ (show b6 ≠ bm by omega)]; exact cP
          go_wp2_with (at_builtin; refine wpList_append_own _ rfl _ _ 24 rfl base 43 i0 (.agg #[.int .i64 0, .bool false]) 2 16 Tryd.underlying24 hi hz0 hz1 hz2 rfl (by decide) v M.length (M.flatMap mkE) rfl (R6.out.later (by (repeat' (first | (with_reducible exact G.refl _) | (with_reducible assumption) | (with_reducible refine G.drewN ?_ _) | (with_reducible refine G.drew ?_) | (with_reducible refine G.alloc ?_ _) | (with_reducible refine G.setCell ?_ (by first | (with_reducible exact Nat.le_refl _) | (simp; done) | (simp; omega) | omega) _) | (with_reducible refine G.trans ?_ (by assumption)))))) ⟨W5.heap.size, 0, none⟩ 1 1 [.int .i64 K, .bool PB] rfl rfl (new_add _ _ [.int .i64 K, .bool PB] _ (by simp [go_sem])) (by simp [Value.oneCell']) (by unfold maxLen; omega) (by omega) (by simp [go_sem]; omega) ?_; intro v' w6 hown' hgrow _)
          have RN := Lib.hid (Row.more (enc := mkE) (M := M) (x := (K, PB)) hown')
          have AN := Lib.hid (show Arr w6 b6 (nx K ⟨t, s, al, o, hd, sh⟩ F) by rw [HXP.out, if_neg HK0.out]; exact (A66.out).more hgrow (Row.ne R6.out (by omega)))
          have A5N := Lib.hid ((A56.out).more hgrow (Row.ne R6.out (by omega)))
          have CN := Lib.hid ((C6.out).more hgrow (Row.ne R6.out (by omega)))
          have gN : G w w6 := (gw6.out).more hgrow (fun k hk => by have := Row.own R6.out k hk; have := hb5.out; omega)
          have hsN := hgrow.size
          go_roundg (l.length - (i + 1))
          case measure => have := HQ.out; omega
          case rel => exact ⟨i + 1, v', M ++ [(K, PB)], _, rfl, by first | rfl | simp, rfl, by omega, by rw [List.length_append, HM.out]; rfl, HD2, HDF2, RN, AN, A5N, CN, gN, by simp [go_sem] at hsN; omega⟩
      · obtain rfl : C = false := by simpa using hC1
        clear hC1
        by_cases hh : hd = true
        · subst hh
          obtain rfl : D = false := HDC.out
          clear HDC
          have HK := Lib.hid hK.out.symm
          have HPB := Lib.hid hPB.out.symm
          by_cases K0 : K = 0
          · have b3 : (K == 0) = true := by rw [K0]; rfl
            have b4 : (K != 0) = false := by rw [K0]; rfl
            have HK0 := Lib.hid K0
            clear K0
            go_wp2_with fail
            refine (index_any s o _ HPOS.out).mono ?_
            rintro e w4 ⟨rfl, rfl⟩
            rw [← hP.out]
            go_wp2_with fail
            have gW1 : G wr (wr.alloc (.cells #[.int .i64 t, .int .i64 s, .int .i64 al, .int .i64 o, .bool true, .int .i64 sh] 65)) := by (repeat' (first | (with_reducible exact G.refl _) | (with_reducible assumption) | (with_reducible refine G.drewN ?_ _) | (with_reducible refine G.drew ?_) | (with_reducible refine G.alloc ?_ _) | (with_reducible refine G.setCell ?_ (by first | (with_reducible exact Nat.le_refl _) | (simp; done) | (simp; omega) | omega) _) | (with_reducible refine G.trans ?_ (by assumption))))
            have hN : Hid (Nt6 (wr.alloc (.cells #[.int .i64 t, .int .i64 s, .int .i64 al, .int .i64 o, .bool true, .int .i64 sh] 65)) wr.heap.size 0 ⟨t, s, al, o, true, sh⟩) := Lib.hid (six_at (W := wr) rfl (G.refl _))
            have yc1 := gW1.at yc
            have zc1 := gW1.at zc6
            obtain ⟨u0, u1, u2, u3, u4, u5⟩ := hN.out
            dsimp only at u0 u1 u2 u3 u4 u5
            simp only [Nat.zero_add] at u1 u2 u3 u4 u5
            generalize wr.alloc (.cells #[.int .i64 t, .int .i64 s, .int .i64 al, .int .i64 o, .bool true, .int .i64 sh] 65) = W1 at *
            have ltn := cell_lt u0
            have ltg := cell_lt yc1
            have lt61 := cell_lt zc1
            simp only at ltn ltg lt61
            generalize wr.heap.size = bn at *
            refine wp_region_held_drew (S := fun w' => w'.cell? ⟨bn, 0, none⟩ = some (.int .i64 t) ∧ w'.cell? ⟨bn, 1, none⟩ = some (.int .i64 s) ∧ w'.cell? ⟨bn, 2, none⟩ = some (.int .i64 al) ∧ w'.cell? ⟨bn, 3, none⟩ = some (.int .i64 o) ∧ w'.cell? ⟨bn, 4, none⟩ = some (.bool true) ∧ w'.cell? ⟨bn, 5, none⟩ = some (.int .i64 sh) ∧ w'.cell? ⟨g, i, none⟩ = some (.bool false) ∧ w'.cell? ⟨b6, pn, none⟩ = some (.int .i64 FP)) (by kernel_rfl) (by ((try dsimp only); first | (with_reducible assumption) | ((repeat' (with_reducible apply And.intro)) <;> go_simp))) (fun hH0 => ?_)
            refine wpAnyH_take (i := 0) (oi := { dst := some 31, op := Go.Op.load 65 (Go.Operand.tmp 10), type := 65, pos := "accidental.go:81", after := #[], guard := none }) (v := ?_) rfl (by kernel_rfl) (by kernel_rfl) (by kernel_rfl) (fun _ _ _ h => h) (Or.inl ⟨by rfl, ?_⟩) (by assumption) ?_
            rotate_left
            · (intro w hSw; (try dsimp only at hSw); go_simp) <;> (with_reducible rfl)
            simp only [Act.put, List.setIfInBounds_toArray, List.set_cons_zero, List.set_cons_succ]
            refine wpAnyH_take (i := 1) (oi := { dst := some 32, op := Go.Op.move (Go.Operand.tmp 8), type := 76, pos := "accidental.go:81", after := #[], guard := none }) (v := ?_) rfl (by kernel_rfl) (by kernel_rfl) (by kernel_rfl) (fun _ _ _ h => h) (Or.inl ⟨by rfl, ?_⟩) (by assumption) ?_
            rotate_left
            · (intro w hSw; (try dsimp only at hSw); go_simp) <;> (with_reducible rfl)
            simp only [Act.put, List.setIfInBounds_toArray, List.set_cons_zero, List.set_cons_succ]
            refine wpAnyH_take (i := 2) (oi := { dst := some 33, op := Go.Op.move (Go.Operand.tmp 9), type := 3, pos := "accidental.go:81", after := #[], guard := none }) (v := ?_) rfl (by kernel_rfl) (by kernel_rfl) (by kernel_rfl) (fun _ _ _ h => h) (Or.inl ⟨by rfl, ?_⟩) (by assumption) ?_
            rotate_left
            · (intro w hSw; (try dsimp only at hSw); go_simp) <;> (with_reducible rfl)
            simp only [Act.put, List.setIfInBounds_toArray, List.set_cons_zero, List.set_cons_succ]
            refine wpAnyH_take (i := 3) (oi := { dst := some 34, op := Go.Op.indexAddr 76 (Go.Operand.tmp 32) (Go.Operand.tmp 33), type := 0, pos := "accidental.go:81", after := #[{ on := 1, ground := Go.Ground.data }, { on := 2, ground := Go.Ground.data }], guard := none }) (v := ?_) rfl (by kernel_rfl) (by kernel_rfl) (by kernel_rfl) (fun _ _ _ h => h) (Or.inl ⟨by rfl, ?_⟩) (by assumption) ?_
            rotate_left
            · (intro w hSw; (try dsimp only at hSw); go_simp) <;> (with_reducible rfl)
            simp only [Act.put, List.setIfInBounds_toArray, List.set_cons_zero, List.set_cons_succ]
            refine wpAnyH_take (i := 4) (oi := { dst := some 35, op := Go.Op.load 4 (Go.Operand.tmp 34), type := 4, pos := "accidental.go:81", after := #[{ on := 3, ground := Go.Ground.data }], guard := none }) (v := ?_) rfl (by kernel_rfl) (by kernel_rfl) (by kernel_rfl) (fun _ _ _ h => h) (Or.inl ⟨by rfl, ?_⟩) (by assumption) ?_
            rotate_left
            · (intro w hSw; (try dsimp only at hSw); go_simp) <;> (with_reducible rfl)
            simp only [Act.put, List.setIfInBounds_toArray, List.set_cons_zero, List.set_cons_succ]
            refine wpAnyH_take (i := 5) (oi := { dst := some 36, op := Go.Op.move (Go.Operand.tmp 35), type := 4, pos := "accidental.go:81", after := #[{ on := 4, ground := Go.Ground.data }], guard := none }) (v := ?_) rfl (by kernel_rfl) (by kernel_rfl) (by kernel_rfl) (fun _ _ _ h => h) (Or.inl ⟨by rfl, ?_⟩) (by assumption) ?_
            rotate_left
            · (intro w hSw; (try dsimp only at hSw); go_simp) <;> (with_reducible rfl)
            simp only [Act.put, List.setIfInBounds_toArray, List.set_cons_zero, List.set_cons_succ]
            refine wpAnyH_take (i := 6) (oi := { dst := some 37, op := Go.Op.fieldAddr 65 (Go.Operand.tmp 10) 2, type := 0, pos := "accidental.go:81", after := #[{ on := 5, ground := Go.Ground.guard }], guard := some (5, false) }) (v := ?_) rfl (by kernel_rfl) (by kernel_rfl) (by kernel_rfl) (fun _ _ _ h => h) (Or.inl ⟨by rfl, ?_⟩) (by assumption) ?_
            rotate_left
            · (intro w hSw; (try dsimp only at hSw); go_simp) <;> (with_reducible rfl)
            simp only [Act.put, List.setIfInBounds_toArray, List.set_cons_zero, List.set_cons_succ]
            refine wpAnyH_take (i := 7) (oi := { dst := some 38, op := Go.Op.load 4 (Go.Operand.tmp 37), type := 4, pos := "accidental.go:81", after := #[{ on := 6, ground := Go.Ground.data }, { on := 5, ground := Go.Ground.guard }], guard := some (5, false) }) (v := ?_) rfl (by kernel_rfl) (by kernel_rfl) (by kernel_rfl) (fun _ _ _ h => h) (Or.inl ⟨by rfl, ?_⟩) (by assumption) ?_
            rotate_left
            · (intro w hSw; (try dsimp only at hSw); go_simp) <;> (with_reducible rfl)
            simp only [Act.put, List.setIfInBounds_toArray, List.set_cons_zero, List.set_cons_succ]
            refine wpAnyH_take (i := 8) (oi := { dst := some 39, op := Go.Op.unOp Go.UnOp.not 4 (Go.Operand.tmp 38), type := 4, pos := "accidental.go:81", after := #[{ on := 7, ground := Go.Ground.data }, { on := 5, ground := Go.Ground.guard }], guard := some (5, false) }) (v := ?_) rfl (by kernel_rfl) (by kernel_rfl) (by kernel_rfl) (fun _ _ _ h => h) (Or.inl ⟨by rfl, ?_⟩) (by assumption) ?_
            rotate_left
            · (intro w hSw; (try dsimp only at hSw); go_simp) <;> (with_reducible rfl)
            simp only [Act.put, List.setIfInBounds_toArray, List.set_cons_zero, List.set_cons_succ]
            refine wpAnyH_take (i := 9) (oi := { dst := some 40, op := Go.Op.move (Go.Operand.tmp 39), type := 4, pos := "accidental.go:81", after := #[{ on := 8, ground := Go.Ground.data }, { on := 5, ground := Go.Ground.chain }, { on := 5, ground := Go.Ground.guard }], guard := some (5, false) }) (v := ?_) rfl (by kernel_rfl) (by kernel_rfl) (by kernel_rfl) (fun _ _ _ h => h) (Or.inl ⟨by rfl, ?_⟩) (by assumption) ?_
            rotate_left
            · (intro w hSw; (try dsimp only at hSw); go_simp) <;> (with_reducible rfl)
            simp only [Act.put, List.setIfInBounds_toArray, List.set_cons_zero, List.set_cons_succ]
            refine wpAnyH_take (i := 10) (oi := { dst := some 41, op := Go.Op.fieldAddr 65 (Go.Operand.tmp 10) 1, type := 0, pos := "accidental.go:81", after := #[{ on := 9, ground := Go.Ground.guard }], guard := some (9, true) }) (v := undef) rfl (by kernel_rfl) (by kernel_rfl) (by kernel_rfl) (fun _ _ _ h => h) (Or.inr ⟨by rfl, rfl⟩) (by assumption) ?_
            simp only [Act.put, List.setIfInBounds_toArray, List.set_cons_zero, List.set_cons_succ]
            refine wpAnyH_take (i := 11) (oi := { dst := some 42, op := Go.Op.fieldAddr 52 (Go.Operand.tmp 41) 1, type := 0, pos := "accidental.go:81", after := #[{ on := 10, ground := Go.Ground.data }, { on := 9, ground := Go.Ground.guard }], guard := some (9, true) }) (v := undef) rfl (by kernel_rfl) (by kernel_rfl) (by kernel_rfl) (fun _ _ _ h => h) (Or.inr ⟨by rfl, rfl⟩) (by assumption) ?_
            simp only [Act.put, List.setIfInBounds_toArray, List.set_cons_zero, List.set_cons_succ]
            refine wpAnyH_take (i := 12) (oi := { dst := some 43, op := Go.Op.load 3 (Go.Operand.tmp 42), type := 3, pos := "accidental.go:81", after := #[{ on := 11, ground := Go.Ground.data }, { on := 9, ground := Go.Ground.guard }], guard := some (9, true) }) (v := undef) rfl (by kernel_rfl) (by kernel_rfl) (by kernel_rfl) (fun _ _ _ h => h) (Or.inr ⟨by rfl, rfl⟩) (by assumption) ?_
            simp only [Act.put, List.setIfInBounds_toArray, List.set_cons_zero, List.set_cons_succ]
            refine wpAnyH_take (i := 13) (oi := { dst := some 44, op := Go.Op.move (Go.Operand.tmp 11), type := 3, pos := "accidental.go:81", after := #[{ on := 9, ground := Go.Ground.guard }], guard := some (9, true) }) (v := undef) rfl (by kernel_rfl) (by kernel_rfl) (by kernel_rfl) (fun _ _ _ h => h) (Or.inr ⟨by rfl, rfl⟩) (by assumption) ?_
            simp only [Act.put, List.setIfInBounds_toArray, List.set_cons_zero, List.set_cons_succ]
            refine wpAnyH_take (i := 14) (oi := { dst := some 45, op := Go.Op.indexAddr 58 (Go.Operand.tmp 6) (Go.Operand.tmp 44), type := 0, pos := "accidental.go:81", after := #[{ on := 13, ground := Go.Ground.data }, { on := 9, ground := Go.Ground.guard }], guard := some (9, true) }) (v := undef) rfl (by kernel_rfl) (by kernel_rfl) (by kernel_rfl) (fun _ _ _ h => h) (Or.inr ⟨by rfl, rfl⟩) (by assumption) ?_
            simp only [Act.put, List.setIfInBounds_toArray, List.set_cons_zero, List.set_cons_succ]
            refine wpAnyH_take (i := 15) (oi := { dst := some 46, op := Go.Op.load 3 (Go.Operand.tmp 45), type := 3, pos := "accidental.go:81", after := #[{ on := 14, ground := Go.Ground.data }, { on := 9, ground := Go.Ground.guard }], guard := some (9, true) }) (v := undef) rfl (by kernel_rfl) (by kernel_rfl) (by kernel_rfl) (fun _ _ _ h => h) (Or.inr ⟨by rfl, rfl⟩) (by assumption) ?_
            simp only [Act.put, List.setIfInBounds_toArray, List.set_cons_zero, List.set_cons_succ]
            refine wpAnyH_take (i := 16) (oi := { dst := some 47, op := Go.Op.binOp Go.BinOp.neq 3 (Go.Operand.tmp 43) (Go.Operand.tmp 46) 3, type := 4, pos := "accidental.go:81", after := #[{ on := 12, ground := Go.Ground.data }, { on := 15, ground := Go.Ground.data }, { on := 9, ground := Go.Ground.guard }], guard := some (9, true) }) (v := undef) rfl (by kernel_rfl) (by kernel_rfl) (by kernel_rfl) (fun _ _ _ h => h) (Or.inr ⟨by rfl, rfl⟩) (by assumption) ?_
            simp only [Act.put, List.setIfInBounds_toArray, List.set_cons_zero, List.set_cons_succ]
            refine wpAnyH_take (i := 17) (oi := { dst := some 48, op := Go.Op.pick (Go.Operand.tmp 40) (Go.Operand.tmp 47) (Go.Operand.const (Go.Value.bool false)), type := 4, pos := "accidental.go:81", after := #[{ on := 9, ground := Go.Ground.data }, { on := 16, ground := Go.Ground.data }, { on := 5, ground := Go.Ground.guard }], guard := some (5, false) }) (v := ?_) rfl (by kernel_rfl) (by kernel_rfl) (by kernel_rfl) (fun _ _ _ h => h) (Or.inl ⟨by rfl, ?_⟩) (by assumption) ?_
            rotate_left
            · (intro w hSw; (try dsimp only at hSw); go_simp) <;> (with_reducible rfl)
            simp only [Act.put, List.setIfInBounds_toArray, List.set_cons_zero, List.set_cons_succ]
            refine wpAnyH_take (i := 18) (oi := { dst := some 49, op := Go.Op.pick (Go.Operand.tmp 36) (Go.Operand.const (Go.Value.bool true)) (Go.Operand.tmp 48), type := 4, pos := "accidental.go:81", after := #[{ on := 5, ground := Go.Ground.data }, { on := 17, ground := Go.Ground.data }], guard := none }) (v := ?_) rfl (by kernel_rfl) (by kernel_rfl) (by kernel_rfl) (fun _ _ _ h => h) (Or.inl ⟨by rfl, ?_⟩) (by assumption) ?_
            rotate_left
            · (intro w hSw; (try dsimp only at hSw); go_simp) <;> (with_reducible rfl)
            simp only [Act.put, List.setIfInBounds_toArray, List.set_cons_zero, List.set_cons_succ]
            refine wpAnyH_ready (rs := [19, 20]) (by kernel_rfl) (by simp) ?_
            refine (AllReadyH.cons (o := { dst := some 50, op := Go.Op.call { callee := Go.Callee.value (Go.Operand.func 38), args := #[Go.Operand.tmp 31, Go.Operand.tmp 49], argTypes := #[65, 4] }, type := 43, pos := "accidental.go:81", after := #[{ on := 0, ground := Go.Ground.data }, { on := 18, ground := Go.Ground.data }, { on := 9, ground := Go.Ground.chain }], guard := none }) rfl (fun Kc hKc => ?_) (AllReadyH.cons (o := { dst := some 12, op := Go.Op.alloc 43, type := 0, pos := "accidental.go:81", after := #[], guard := none }) rfl (fun Kc hKc => ?_) AllReadyH.nil))
            · go_simp
              go_at_call 38
              refine (mark_any _ _ _ _ _ _ _ _ HAL.out).mono ?_
              rintro e w4 ⟨rfl, hG4⟩
              rw [HK.out, HPB.out]
              have gq : G W1 w4 := G.trans (by (repeat' (first | (with_reducible exact G.refl _) | (with_reducible refine G.drewN ?_ _) | (with_reducible refine G.drew ?_) | (with_reducible refine G.alloc ?_ _)))) hG4
              obtain ⟨v0, v1, v2, v3, v4, v5⟩ := hN.out.later gq
              dsimp only at v0 v1 v2 v3 v4 v5
              simp only [Nat.zero_add] at v1 v2 v3 v4 v5
              have yc' := gq.at yc1
              have zc' := gq.at zc1
              refine hKc.out _ _ (by ((try dsimp only); first | (with_reducible assumption) | ((repeat' (with_reducible apply And.intro)) <;> go_simp))) (fun hH1 => ?_)
              clear hKc Kc hH0
              clear v0 v1 v2 v3 v4 v5 yc' zc'
              have g4 := gq
              clear gq hG4
              refine wpAnyH_ready (rs := [20]) (by kernel_rfl) (by simp) ?_
              refine (AllReadyH.cons (o := { dst := some 12, op := Go.Op.alloc 43, type := 0, pos := "accidental.go:81", after := #[], guard := none }) rfl (fun Kc hKc => ?_) AllReadyH.nil)
              go_simp
              have gq : G W1 (w4.alloc (.cells #[.int .i64 0, .bool false] 43)) := g4.alloc _
              obtain ⟨⟨m0, m1⟩, m2, m3⟩ := two_fr (w1 := w4.alloc (.cells #[.int .i64 0, .bool false] 43)) rfl (G.refl _)
              have hbm : W1.heap.size ≤ w4.heap.size := g4.size
              obtain ⟨v0, v1, v2, v3, v4, v5⟩ := hN.out.later gq
              dsimp only at v0 v1 v2 v3 v4 v5
              simp only [Nat.zero_add] at v1 v2 v3 v4 v5
              have yc' := gq.at yc1
              have zc' := gq.at zc1
              refine hKc.out _ _ (by ((try dsimp only); first | (with_reducible assumption) | ((repeat' (with_reducible apply And.intro)) <;> go_simp))) (fun hH2 => ?_)
              clear hKc Kc hH1
              clear v0 v1 v2 v3 v4 v5 yc' zc'
              generalize w4.heap.size = bm at *
              generalize w4.alloc (.cells #[.int .i64 0, .bool false] 43) = w5 at *
              clear g4
              refine wpAnyH_ready (rs := [21]) (by kernel_rfl) (by simp) ?_
              refine (AllReadyH.cons (o := { dst := none, op := Go.Op.store 43 (Go.Operand.tmp 12) (Go.Operand.tmp 50), type := 0, pos := "accidental.go:81", after := #[{ on := 20, ground := Go.Ground.data }, { on := 19, ground := Go.Ground.data }, { on := 19, ground := Go.Ground.chain }, { on := 0, ground := Go.Ground.phase }, { on := 1, ground := Go.Ground.phase }, { on := 2, ground := Go.Ground.phase }, { on := 3, ground := Go.Ground.phase }, { on := 4, ground := Go.Ground.phase }, { on := 5, ground := Go.Ground.phase }, { on := 6, ground := Go.Ground.phase }, { on := 7, ground := Go.Ground.phase }, { on := 8, ground := Go.Ground.phase }, { on := 9, ground := Go.Ground.phase }, { on := 10, ground := Go.Ground.phase }, { on := 11, ground := Go.Ground.phase }, { on := 12, ground := Go.Ground.phase }, { on := 13, ground := Go.Ground.phase }, { on := 14, ground := Go.Ground.phase }, { on := 15, ground := Go.Ground.phase }, { on := 16, ground := Go.Ground.phase }, { on := 17, ground := Go.Ground.phase }, { on := 18, ground := Go.Ground.phase }, { on := 19, ground := Go.Ground.phase }, { on := 20, ground := Go.Ground.phase }], guard := none }) rfl (fun Kc hKc => ?_) AllReadyH.nil)
              obtain ⟨v0, v1, v2, v3, v4, v5⟩ := hN.out.later gq
              dsimp only at v0 v1 v2 v3 v4 v5
              simp only [Nat.zero_add] at v1 v2 v3 v4 v5
              have yc' := gq.at yc1
              have zc' := gq.at zc1
              have far : ∀ {q j : Nat} {u : Value}, bm ≠ q → w5.cell? ⟨q, j, none⟩ = some u → ((w5.setCell ⟨bm, 0, none⟩ (.int .i64 K)).setCell ⟨bm, 1, none⟩ (.bool PB)).cell? ⟨q, j, none⟩ = some u := fun h1 h2 => by
                rw [World.cell?_setCell_far _ _ _ _ h1, World.cell?_setCell_far _ _ _ _ h1]; exact h2
              go_simp
              refine hKc.out _ _ ⟨far (by omega) v0, far (by omega) v1, far (by omega) v2, far (by omega) v3, far (by omega) v4, far (by omega) v5, far (by omega) yc', far (by omega) zc'⟩ (fun hHs => ?_)
              clear hKc Kc hHs far v0 v1 v2 v3 v4 v5 yc' zc'
              refine wpAnyH_done (by kernel_rfl) ?_ _
              have g5 := gq
              clear gq
              obtain ⟨cK, cP⟩ := two_set (u := .int .i64 K) (v := .bool PB) m0 m1
              have gZ : G W1 ((w5.setCell ⟨bm, 0, none⟩ (.int .i64 K)).setCell ⟨bm, 1, none⟩ (.bool PB)) := (g5.setCell (p := ⟨bm, 0, none⟩) hbm _).setCell (p := ⟨bm, 1, none⟩) hbm _
              generalize (w5.setCell ⟨bm, 0, none⟩ (.int .i64 K)).setCell ⟨bm, 1, none⟩ (.bool PB) = W5 at *
              have gW := gW1.trans gZ
              have hsz5 := gZ.size
              have R5 := Lib.hid (hR.out.later gW)
              have A65 := Lib.hid (hA6.out.later gW)
              have A55 := Lib.hid (hA5.out.later gW)
              have C5 := Lib.hid (hCl.out.later gW)
              have gw5 := Lib.hid (gr.trans gW)
              obtain ⟨u0, u1, u2, u3, u4, u5⟩ := (hN.out.later gZ)
              dsimp only at u0 u1 u2 u3 u4 u5
              simp only [Nat.zero_add] at u1 u2 u3 u4 u5
              go_wp2_with (at_builtin; refine wpList_append_own _ rfl _ _ 24 rfl base 43 i0 (.agg #[.int .i64 0, .bool false]) 2 16 Tryd.underlying24 hi hz0 hz1 hz2 rfl (by decide) v M.length (M.flatMap mkE) rfl (R5.out.later (by (repeat' (first | (with_reducible exact G.refl _) | (with_reducible assumption) | (with_reducible refine G.drewN ?_ _) | (with_reducible refine G.drew ?_) | (with_reducible refine G.alloc ?_ _) | (with_reducible refine G.setCell ?_ (by first | (with_reducible exact Nat.le_refl _) | (simp; done) | (simp; omega) | omega) _) | (with_reducible refine G.trans ?_ (by assumption)))))) ⟨W5.heap.size, 0, none⟩ 1 1 [.int .i64 K, .bool PB] rfl rfl (new_add _ _ [.int .i64 K, .bool PB] _ (by simp [go_sem])) (by simp [Value.oneCell']) (by unfold maxLen; omega) (by omega) (by simp [go_sem]; omega) ?_; intro v' w6 hown' hgrow _)
              have RN := Lib.hid (Row.more (enc := mkE) (M := M) (x := (K, PB)) hown')
              have AN := Lib.hid (show Arr w6 b6 (nx K ⟨t, s, al, o, true, sh⟩ F) by rw [HXP.out, if_pos HK0.out]; exact (A65.out).more hgrow (Row.ne R5.out (by omega)))
              have A5N := Lib.hid ((A55.out).more hgrow (Row.ne R5.out (by omega)))
              have CN := Lib.hid ((C5.out).more hgrow (Row.ne R5.out (by omega)))
              have gN : G w w6 := (gw5.out).more hgrow (fun k hk => by have := Row.own R5.out k hk; have := hb5.out; omega)
              have hsN := hgrow.size
              go_roundg (l.length - (i + 1))
              case measure => have := HQ.out; omega
              case rel => exact ⟨i + 1, v', M ++ [(K, PB)], _, rfl, by first | rfl | simp, rfl, by omega, by rw [List.length_append, HM.out]; rfl, HD2, HDF2, RN, AN, A5N, CN, gN, by simp [go_sem] at hsN; omega⟩
            · go_simp
              have gq : G W1 (W1.drew.alloc (.cells #[.int .i64 0, .bool false] 43)) := by (repeat' (first | (with_reducible exact G.refl _) | (with_reducible refine G.drewN ?_ _) | (with_reducible refine G.drew ?_) | (with_reducible refine G.alloc ?_ _)))
              obtain ⟨v0, v1, v2, v3, v4, v5⟩ := hN.out.later gq
              dsimp only at v0 v1 v2 v3 v4 v5
              simp only [Nat.zero_add] at v1 v2 v3 v4 v5
              have yc' := gq.at yc1
              have zc' := gq.at zc1
              refine hKc.out _ _ (by ((try dsimp only); first | (with_reducible assumption) | ((repeat' (with_reducible apply And.intro)) <;> go_simp))) (fun hH4 => ?_)
              clear hKc Kc hH0
              clear v0 v1 v2 v3 v4 v5 yc' zc'
              have g4 := gq
              clear gq
              refine wpAnyH_ready (rs := [19]) (by kernel_rfl) (by simp) ?_
              refine (AllReadyH.cons (o := { dst := some 50, op := Go.Op.call { callee := Go.Callee.value (Go.Operand.func 38), args := #[Go.Operand.tmp 31, Go.Operand.tmp 49], argTypes := #[65, 4] }, type := 43, pos := "accidental.go:81", after := #[{ on := 0, ground := Go.Ground.data }, { on := 18, ground := Go.Ground.data }, { on := 9, ground := Go.Ground.chain }], guard := none }) rfl (fun Kc hKc => ?_) AllReadyH.nil)
              go_simp
              go_at_call 38
              refine (mark_any _ _ _ _ _ _ _ _ HAL.out).mono ?_
              rintro e w5 ⟨rfl, hG5⟩
              rw [HK.out, HPB.out]
              have gq : G W1 w5 := G.trans (by (repeat' (first | (with_reducible exact G.refl _) | (with_reducible refine G.drewN ?_ _) | (with_reducible refine G.drew ?_) | (with_reducible refine G.alloc ?_ _)))) hG5
              have hG6 : G (W1.alloc (.cells #[.int .i64 0, .bool false] 43)) w5 := G.trans (G.drew (G.refl _)) hG5
              obtain ⟨⟨m0, m1⟩, m2, m3⟩ := two_fr rfl hG6
              obtain ⟨bm, hbmv⟩ : ∃ z : Nat, W1.heap.size = z := ⟨_, rfl⟩
              have hbm : W1.heap.size ≤ bm := by omega
              rw [hbmv] at m0 m1 m2 m3
              try rw [hbmv]
              obtain ⟨v0, v1, v2, v3, v4, v5⟩ := hN.out.later gq
              dsimp only at v0 v1 v2 v3 v4 v5
              simp only [Nat.zero_add] at v1 v2 v3 v4 v5
              have yc' := gq.at yc1
              have zc' := gq.at zc1
              refine hKc.out _ _ (by ((try dsimp only); first | (with_reducible assumption) | ((repeat' (with_reducible apply And.intro)) <;> go_simp))) (fun hH5 => ?_)
              clear hKc Kc hH4
              clear v0 v1 v2 v3 v4 v5 yc' zc'
              clear hG5 hG6 g4
              refine wpAnyH_ready (rs := [21]) (by kernel_rfl) (by simp) ?_
              refine (AllReadyH.cons (o := { dst := none, op := Go.Op.store 43 (Go.Operand.tmp 12) (Go.Operand.tmp 50), type := 0, pos := "accidental.go:81", after := #[{ on := 20, ground := Go.Ground.data }, { on := 19, ground := Go.Ground.data }, { on := 19, ground := Go.Ground.chain }, { on := 0, ground := Go.Ground.phase }, { on := 1, ground := Go.Ground.phase }, { on := 2, ground := Go.Ground.phase }, { on := 3, ground := Go.Ground.phase }, { on := 4, ground := Go.Ground.phase }, { on := 5, ground := Go.Ground.phase }, { on := 6, ground := Go.Ground.phase }, { on := 7, ground := Go.Ground.phase }, { on := 8, ground := Go.Ground.phase }, { on := 9, ground := Go.Ground.phase }, { on := 10, ground := Go.Ground.phase }, { on := 11, ground := Go.Ground.phase }, { on := 12, ground := Go.Ground.phase }, { on := 13, ground := Go.Ground.phase }, { on := 14, ground := Go.Ground.phase }, { on := 15, ground := Go.Ground.phase }, { on := 16, ground := Go.Ground.phase }, { on := 17, ground := Go.Ground.phase }, { on := 18, ground := Go.Ground.phase }, { on := 19, ground := Go.Ground.phase }, { on := 20, ground := Go.Ground.phase }], guard := none }) rfl (fun Kc hKc => ?_) AllReadyH.nil)
              obtain ⟨v0, v1, v2, v3, v4, v5⟩ := hN.out.later gq
              dsimp only at v0 v1 v2 v3 v4 v5
              simp only [Nat.zero_add] at v1 v2 v3 v4 v5
              have yc' := gq.at yc1
              have zc' := gq.at zc1
              have far : ∀ {q j : Nat} {u : Value}, bm ≠ q → w5.cell? ⟨q, j, none⟩ = some u → ((w5.setCell ⟨bm, 0, none⟩ (.int .i64 K)).setCell ⟨bm, 1, none⟩ (.bool PB)).cell? ⟨q, j, none⟩ = some u := fun h1 h2 => by
                rw [World.cell?_setCell_far _ _ _ _ h1, World.cell?_setCell_far _ _ _ _ h1]; exact h2
              go_simp
              refine hKc.out _ _ ⟨far (by omega) v0, far (by omega) v1, far (by omega) v2, far (by omega) v3, far (by omega) v4, far (by omega) v5, far (by omega) yc', far (by omega) zc'⟩ (fun hHs => ?_)
              clear hKc Kc hHs far v0 v1 v2 v3 v4 v5 yc' zc'
              refine wpAnyH_done (by kernel_rfl) ?_ _
              have g5 := gq
              clear gq
              obtain ⟨cK, cP⟩ := two_set (u := .int .i64 K) (v := .bool PB) m0 m1
              have gZ : G W1 ((w5.setCell ⟨bm, 0, none⟩ (.int .i64 K)).setCell ⟨bm, 1, none⟩ (.bool PB)) := (g5.setCell (p := ⟨bm, 0, none⟩) hbm _).setCell (p := ⟨bm, 1, none⟩) hbm _
              generalize (w5.setCell ⟨bm, 0, none⟩ (.int .i64 K)).setCell ⟨bm, 1, none⟩ (.bool PB) = W5 at *
              have gW := gW1.trans gZ
              have hsz5 := gZ.size
              have R5 := Lib.hid (hR.out.later gW)
              have A65 := Lib.hid (hA6.out.later gW)
              have A55 := Lib.hid (hA5.out.later gW)
              have C5 := Lib.hid (hCl.out.later gW)
              have gw5 := Lib.hid (gr.trans gW)
              obtain ⟨u0, u1, u2, u3, u4, u5⟩ := (hN.out.later gZ)
              dsimp only at u0 u1 u2 u3 u4 u5
              simp only [Nat.zero_add] at u1 u2 u3 u4 u5
              go_wp2_with (at_builtin; refine wpList_append_own _ rfl _ _ 24 rfl base 43 i0 (.agg #[.int .i64 0, .bool false]) 2 16 Tryd.underlying24 hi hz0 hz1 hz2 rfl (by decide) v M.length (M.flatMap mkE) rfl (R5.out.later (by (repeat' (first | (with_reducible exact G.refl _) | (with_reducible assumption) | (with_reducible refine G.drewN ?_ _) | (with_reducible refine G.drew ?_) | (with_reducible refine G.alloc ?_ _) | (with_reducible refine G.setCell ?_ (by first | (with_reducible exact Nat.le_refl _) | (simp; done) | (simp; omega) | omega) _) | (with_reducible refine G.trans ?_ (by assumption)))))) ⟨W5.heap.size, 0, none⟩ 1 1 [.int .i64 K, .bool PB] rfl rfl (new_add _ _ [.int .i64 K, .bool PB] _ (by simp [go_sem])) (by simp [Value.oneCell']) (by unfold maxLen; omega) (by omega) (by simp [go_sem]; omega) ?_; intro v' w6 hown' hgrow _)
              have RN := Lib.hid (Row.more (enc := mkE) (M := M) (x := (K, PB)) hown')
              have AN := Lib.hid (show Arr w6 b6 (nx K ⟨t, s, al, o, true, sh⟩ F) by rw [HXP.out, if_pos HK0.out]; exact (A65.out).more hgrow (Row.ne R5.out (by omega)))
              have A5N := Lib.hid ((A55.out).more hgrow (Row.ne R5.out (by omega)))
              have CN := Lib.hid ((C5.out).more hgrow (Row.ne R5.out (by omega)))
              have gN : G w w6 := (gw5.out).more hgrow (fun k hk => by have := Row.own R5.out k hk; have := hb5.out; omega)
              have hsN := hgrow.size
              go_roundg (l.length - (i + 1))
              case measure => have := HQ.out; omega
              case rel => exact ⟨i + 1, v', M ++ [(K, PB)], _, rfl, by first | rfl | simp, rfl, by omega, by rw [List.length_append, HM.out]; rfl, HD2, HDF2, RN, AN, A5N, CN, gN, by simp [go_sem] at hsN; omega⟩
          · have b3 : (K == 0) = false := beq_false_of_ne K0
            have b4 : (K != 0) = true := by simp [bne, b3]
            have HK0 := Lib.hid K0
            clear K0
            go_wp2_with fail
            refine (index_any s o _ HPOS.out).mono ?_
            rintro e w4 ⟨rfl, rfl⟩
            rw [← hP.out]
            go_wp2_with fail
            have gW1 : G wr (wr.alloc (.cells #[.int .i64 t, .int .i64 s, .int .i64 al, .int .i64 o, .bool true, .int .i64 sh] 65)) := by (repeat' (first | (with_reducible exact G.refl _) | (with_reducible assumption) | (with_reducible refine G.drewN ?_ _) | (with_reducible refine G.drew ?_) | (with_reducible refine G.alloc ?_ _) | (with_reducible refine G.setCell ?_ (by first | (with_reducible exact Nat.le_refl _) | (simp; done) | (simp; omega) | omega) _) | (with_reducible refine G.trans ?_ (by assumption))))
            have hN : Hid (Nt6 (wr.alloc (.cells #[.int .i64 t, .int .i64 s, .int .i64 al, .int .i64 o, .bool true, .int .i64 sh] 65)) wr.heap.size 0 ⟨t, s, al, o, true, sh⟩) := Lib.hid (six_at (W := wr) rfl (G.refl _))
            have yc1 := gW1.at yc
            have zc1 := gW1.at zc6
            obtain ⟨u0, u1, u2, u3, u4, u5⟩ := hN.out
            dsimp only at u0 u1 u2 u3 u4 u5
            simp only [Nat.zero_add] at u1 u2 u3 u4 u5
            generalize wr.alloc (.cells #[.int .i64 t, .int .i64 s, .int .i64 al, .int .i64 o, .bool true, .int .i64 sh] 65) = W1 at *
            have ltn := cell_lt u0
            have ltg := cell_lt yc1
            have lt61 := cell_lt zc1
            simp only at ltn ltg lt61
            generalize wr.heap.size = bn at *
            refine wp_region_held_drew (S := fun w' => w'.cell? ⟨bn, 0, none⟩ = some (.int .i64 t) ∧ w'.cell? ⟨bn, 1, none⟩ = some (.int .i64 s) ∧ w'.cell? ⟨bn, 2, none⟩ = some (.int .i64 al) ∧ w'.cell? ⟨bn, 3, none⟩ = some (.int .i64 o) ∧ w'.cell? ⟨bn, 4, none⟩ = some (.bool true) ∧ w'.cell? ⟨bn, 5, none⟩ = some (.int .i64 sh) ∧ w'.cell? ⟨g, i, none⟩ = some (.bool false) ∧ w'.cell? ⟨b6, pn, none⟩ = some (.int .i64 FP)) (by kernel_rfl) (by ((try dsimp only); first | (with_reducible assumption) | ((repeat' (with_reducible apply And.intro)) <;> go_simp))) (fun hH0 => ?_)
            refine wpAnyH_take (i := 0) (oi := { dst := some 31, op := Go.Op.load 65 (Go.Operand.tmp 10), type := 65, pos := "accidental.go:81", after := #[], guard := none }) (v := ?_) rfl (by kernel_rfl) (by kernel_rfl) (by kernel_rfl) (fun _ _ _ h => h) (Or.inl ⟨by rfl, ?_⟩) (by assumption) ?_
            rotate_left
            · (intro w hSw; (try dsimp only at hSw); go_simp) <;> (with_reducible rfl)
            simp only [Act.put, List.setIfInBounds_toArray, List.set_cons_zero, List.set_cons_succ]
            refine wpAnyH_take (i := 1) (oi := { dst := some 32, op := Go.Op.move (Go.Operand.tmp 8), type := 76, pos := "accidental.go:81", after := #[], guard := none }) (v := ?_) rfl (by kernel_rfl) (by kernel_rfl) (by kernel_rfl) (fun _ _ _ h => h) (Or.inl ⟨by rfl, ?_⟩) (by assumption) ?_
            rotate_left
            · (intro w hSw; (try dsimp only at hSw); go_simp) <;> (with_reducible rfl)
            simp only [Act.put, List.setIfInBounds_toArray, List.set_cons_zero, List.set_cons_succ]
            refine wpAnyH_take (i := 2) (oi := { dst := some 33, op := Go.Op.move (Go.Operand.tmp 9), type := 3, pos := "accidental.go:81", after := #[], guard := none }) (v := ?_) rfl (by kernel_rfl) (by kernel_rfl) (by kernel_rfl) (fun _ _ _ h => h) (Or.inl ⟨by rfl, ?_⟩) (by assumption) ?_
            rotate_left
            · (intro w hSw; (try dsimp only at hSw); go_simp) <;> (with_reducible rfl)
            simp only [Act.put, List.setIfInBounds_toArray, List.set_cons_zero, List.set_cons_succ]
            refine wpAnyH_take (i := 3) (oi := { dst := some 34, op := Go.Op.indexAddr 76 (Go.Operand.tmp 32) (Go.Operand.tmp 33), type := 0, pos := "accidental.go:81", after := #[{ on := 1, ground := Go.Ground.data }, { on := 2, ground := Go.Ground.data }], guard := none }) (v := ?_) rfl (by kernel_rfl) (by kernel_rfl) (by kernel_rfl) (fun _ _ _ h => h) (Or.inl ⟨by rfl, ?_⟩) (by assumption) ?_
            rotate_left
            · (intro w hSw; (try dsimp only at hSw); go_simp) <;> (with_reducible rfl)
            simp only [Act.put, List.setIfInBounds_toArray, List.set_cons_zero, List.set_cons_succ]
            refine wpAnyH_take (i := 4) (oi := { dst := some 35, op := Go.Op.load 4 (Go.Operand.tmp 34), type := 4, pos := "accidental.go:81", after := #[{ on := 3, ground := Go.Ground.data }], guard := none }) (v := ?_) rfl (by kernel_rfl) (by kernel_rfl) (by kernel_rfl) (fun _ _ _ h => h) (Or.inl ⟨by rfl, ?_⟩) (by assumption) ?_
            rotate_left
            · (intro w hSw; (try dsimp only at hSw); go_simp) <;> (with_reducible rfl)
            simp only [Act.put, List.setIfInBounds_toArray, List.set_cons_zero, List.set_cons_succ]
            refine wpAnyH_take (i := 5) (oi := { dst := some 36, op := Go.Op.move (Go.Operand.tmp 35), type := 4, pos := "accidental.go:81", after := #[{ on := 4, ground := Go.Ground.data }], guard := none }) (v := ?_) rfl (by kernel_rfl) (by kernel_rfl) (by kernel_rfl) (fun _ _ _ h => h) (Or.inl ⟨by rfl, ?_⟩) (by assumption) ?_
            rotate_left
            · (intro w hSw; (try dsimp only at hSw); go_simp) <;> (with_reducible rfl)
            simp only [Act.put, List.setIfInBounds_toArray, List.set_cons_zero, List.set_cons_succ]
            refine wpAnyH_take (i := 6) (oi := { dst := some 37, op := Go.Op.fieldAddr 65 (Go.Operand.tmp 10) 2, type := 0, pos := "accidental.go:81", after := #[{ on := 5, ground := Go.Ground.guard }], guard := some (5, false) }) (v := ?_) rfl (by kernel_rfl) (by kernel_rfl) (by kernel_rfl) (fun _ _ _ h => h) (Or.inl ⟨by rfl, ?_⟩) (by assumption) ?_
            rotate_left
            · (intro w hSw; (try dsimp only at hSw); go_simp) <;> (with_reducible rfl)
            simp only [Act.put, List.setIfInBounds_toArray, List.set_cons_zero, List.set_cons_succ]
            refine wpAnyH_take (i := 7) (oi := { dst := some 38, op := Go.Op.load 4 (Go.Operand.tmp 37), type := 4, pos := "accidental.go:81", after := #[{ on := 6, ground := Go.Ground.data }, { on := 5, ground := Go.Ground.guard }], guard := some (5, false) }) (v := ?_) rfl (by kernel_rfl) (by kernel_rfl) (by kernel_rfl) (fun _ _ _ h => h) (Or.inl ⟨by rfl, ?_⟩) (by assumption) ?_
            rotate_left
            · (intro w hSw; (try dsimp only at hSw); go_simp) <;> (with_reducible rfl)
            simp only [Act.put, List.setIfInBounds_toArray, List.set_cons_zero, List.set_cons_succ]
            refine wpAnyH_take (i := 8) (oi := { dst := some 39, op := Go.Op.unOp Go.UnOp.not 4 (Go.Operand.tmp 38), type := 4, pos := "accidental.go:81", after := #[{ on := 7, ground := Go.Ground.data }, { on := 5, ground := Go.Ground.guard }], guard := some (5, false) }) (v := ?_) rfl (by kernel_rfl) (by kernel_rfl) (by kernel_rfl) (fun _ _ _ h => h) (Or.inl ⟨by rfl, ?_⟩) (by assumption) ?_
            rotate_left
            · (intro w hSw; (try dsimp only at hSw); go_simp) <;> (with_reducible rfl)
            simp only [Act.put, List.setIfInBounds_toArray, List.set_cons_zero, List.set_cons_succ]
            refine wpAnyH_take (i := 9) (oi := { dst := some 40, op := Go.Op.move (Go.Operand.tmp 39), type := 4, pos := "accidental.go:81", after := #[{ on := 8, ground := Go.Ground.data }, { on := 5, ground := Go.Ground.chain }, { on := 5, ground := Go.Ground.guard }], guard := some (5, false) }) (v := ?_) rfl (by kernel_rfl) (by kernel_rfl) (by kernel_rfl) (fun _ _ _ h => h) (Or.inl ⟨by rfl, ?_⟩) (by assumption) ?_
            rotate_left
            · (intro w hSw; (try dsimp only at hSw); go_simp) <;> (with_reducible rfl)
            simp only [Act.put, List.setIfInBounds_toArray, List.set_cons_zero, List.set_cons_succ]
            refine wpAnyH_take (i := 10) (oi := { dst := some 41, op := Go.Op.fieldAddr 65 (Go.Operand.tmp 10) 1, type := 0, pos := "accidental.go:81", after := #[{ on := 9, ground := Go.Ground.guard }], guard := some (9, true) }) (v := undef) rfl (by kernel_rfl) (by kernel_rfl) (by kernel_rfl) (fun _ _ _ h => h) (Or.inr ⟨by rfl, rfl⟩) (by assumption) ?_
            simp only [Act.put, List.setIfInBounds_toArray, List.set_cons_zero, List.set_cons_succ]
            refine wpAnyH_take (i := 11) (oi := { dst := some 42, op := Go.Op.fieldAddr 52 (Go.Operand.tmp 41) 1, type := 0, pos := "accidental.go:81", after := #[{ on := 10, ground := Go.Ground.data }, { on := 9, ground := Go.Ground.guard }], guard := some (9, true) }) (v := undef) rfl (by kernel_rfl) (by kernel_rfl) (by kernel_rfl) (fun _ _ _ h => h) (Or.inr ⟨by rfl, rfl⟩) (by assumption) ?_
            simp only [Act.put, List.setIfInBounds_toArray, List.set_cons_zero, List.set_cons_succ]
            refine wpAnyH_take (i := 12) (oi := { dst := some 43, op := Go.Op.load 3 (Go.Operand.tmp 42), type := 3, pos := "accidental.go:81", after := #[{ on := 11, ground := Go.Ground.data }, { on := 9, ground := Go.Ground.guard }], guard := some (9, true) }) (v := undef) rfl (by kernel_rfl) (by kernel_rfl) (by kernel_rfl) (fun _ _ _ h => h) (Or.inr ⟨by rfl, rfl⟩) (by assumption) ?_
            simp only [Act.put, List.setIfInBounds_toArray, List.set_cons_zero, List.set_cons_succ]
            refine wpAnyH_take (i := 13) (oi := { dst := some 44, op := Go.Op.move (Go.Operand.tmp 11), type := 3, pos := "accidental.go:81", after := #[{ on := 9, ground := Go.Ground.guard }], guard := some (9, true) }) (v := undef) rfl (by kernel_rfl) (by kernel_rfl) (by kernel_rfl) (fun _ _ _ h => h) (Or.inr ⟨by rfl, rfl⟩) (by assumption) ?_
            simp only [Act.put, List.setIfInBounds_toArray, List.set_cons_zero, List.set_cons_succ]
            refine wpAnyH_take (i := 14) (oi := { dst := some 45, op := Go.Op.indexAddr 58 (Go.Operand.tmp 6) (Go.Operand.tmp 44), type := 0, pos := "accidental.go:81", after := #[{ on := 13, ground := Go.Ground.data }, { on := 9, ground := Go.Ground.guard }], guard := some (9, true) }) (v := undef) rfl (by kernel_rfl) (by kernel_rfl) (by kernel_rfl) (fun _ _ _ h => h) (Or.inr ⟨by rfl, rfl⟩) (by assumption) ?_
            simp only [Act.put, List.setIfInBounds_toArray, List.set_cons_zero, List.set_cons_succ]
            refine wpAnyH_take (i := 15) (oi := { dst := some 46, op := Go.Op.load 3 (Go.Operand.tmp 45), type := 3, pos := "accidental.go:81", after := #[{ on := 14, ground := Go.Ground.data }, { on := 9, ground := Go.Ground.guard }], guard := some (9, true) }) (v := undef) rfl (by kernel_rfl) (by kernel_rfl) (by kernel_rfl) (fun _ _ _ h => h) (Or.inr ⟨by rfl, rfl⟩) (by assumption) ?_
            simp only [Act.put, List.setIfInBounds_toArray, List.set_cons_zero, List.set_cons_succ]
            refine wpAnyH_take (i := 16) (oi := { dst := some 47, op := Go.Op.binOp Go.BinOp.neq 3 (Go.Operand.tmp 43) (Go.Operand.tmp 46) 3, type := 4, pos := "accidental.go:81", after := #[{ on := 12, ground := Go.Ground.data }, { on := 15, ground := Go.Ground.data }, { on := 9, ground := Go.Ground.guard }], guard := some (9, true) }) (v := undef) rfl (by kernel_rfl) (by kernel_rfl) (by kernel_rfl) (fun _ _ _ h => h) (Or.inr ⟨by rfl, rfl⟩) (by assumption) ?_
            simp only [Act.put, List.setIfInBounds_toArray, List.set_cons_zero, List.set_cons_succ]
            refine wpAnyH_take (i := 17) (oi := { dst := some 48, op := Go.Op.pick (Go.Operand.tmp 40) (Go.Operand.tmp 47) (Go.Operand.const (Go.Value.bool false)), type := 4, pos := "accidental.go:81", after := #[{ on := 9, ground := Go.Ground.data }, { on := 16, ground := Go.Ground.data }, { on := 5, ground := Go.Ground.guard }], guard := some (5, false) }) (v := ?_) rfl (by kernel_rfl) (by kernel_rfl) (by kernel_rfl) (fun _ _ _ h => h) (Or.inl ⟨by rfl, ?_⟩) (by assumption) ?_
            rotate_left
            · (intro w hSw; (try dsimp only at hSw); go_simp) <;> (with_reducible rfl)
            simp only [Act.put, List.setIfInBounds_toArray, List.set_cons_zero, List.set_cons_succ]
            refine wpAnyH_take (i := 18) (oi := { dst := some 49, op := Go.Op.pick (Go.Operand.tmp 36) (Go.Operand.const (Go.Value.bool true)) (Go.Operand.tmp 48), type := 4, pos := "accidental.go:81", after := #[{ on := 5, ground := Go.Ground.data }, { on := 17, ground := Go.Ground.data }], guard := none }) (v := ?_) rfl (by kernel_rfl) (by kernel_rfl) (by kernel_rfl) (fun _ _ _ h => h) (Or.inl ⟨by rfl, ?_⟩) (by assumption) ?_
            rotate_left
            · (intro w hSw; (try dsimp only at hSw); go_simp) <;> (with_reducible rfl)
            simp only [Act.put, List.setIfInBounds_toArray, List.set_cons_zero, List.set_cons_succ]
            refine wpAnyH_ready (rs := [19, 20]) (by kernel_rfl) (by simp) ?_
            refine (AllReadyH.cons (o := { dst := some 50, op := Go.Op.call { callee := Go.Callee.value (Go.Operand.func 38), args := #[Go.Operand.tmp 31, Go.Operand.tmp 49], argTypes := #[65, 4] }, type := 43, pos := "accidental.go:81", after := #[{ on := 0, ground := Go.Ground.data }, { on := 18, ground := Go.Ground.data }, { on := 9, ground := Go.Ground.chain }], guard := none }) rfl (fun Kc hKc => ?_) (AllReadyH.cons (o := { dst := some 12, op := Go.Op.alloc 43, type := 0, pos := "accidental.go:81", after := #[], guard := none }) rfl (fun Kc hKc => ?_) AllReadyH.nil))
            · go_simp
              go_at_call 38
              refine (mark_any _ _ _ _ _ _ _ _ HAL.out).mono ?_
              rintro e w4 ⟨rfl, hG4⟩
              rw [HK.out, HPB.out]
              have gq : G W1 w4 := G.trans (by (repeat' (first | (with_reducible exact G.refl _) | (with_reducible refine G.drewN ?_ _) | (with_reducible refine G.drew ?_) | (with_reducible refine G.alloc ?_ _)))) hG4
              obtain ⟨v0, v1, v2, v3, v4, v5⟩ := hN.out.later gq
              dsimp only at v0 v1 v2 v3 v4 v5
              simp only [Nat.zero_add] at v1 v2 v3 v4 v5
              have yc' := gq.at yc1
              have zc' := gq.at zc1
              refine hKc.out _ _ (by ((try dsimp only); first | (with_reducible assumption) | ((repeat' (with_reducible apply And.intro)) <;> go_simp))) (fun hH1 => ?_)
              clear hKc Kc hH0
              clear v0 v1 v2 v3 v4 v5 yc' zc'
              have g4 := gq
              clear gq hG4
              refine wpAnyH_ready (rs := [20]) (by kernel_rfl) (by simp) ?_
              refine (AllReadyH.cons (o := { dst := some 12, op := Go.Op.alloc 43, type := 0, pos := "accidental.go:81", after := #[], guard := none }) rfl (fun Kc hKc => ?_) AllReadyH.nil)
              go_simp
              have gq : G W1 (w4.alloc (.cells #[.int .i64 0, .bool false] 43)) := g4.alloc _
              obtain ⟨⟨m0, m1⟩, m2, m3⟩ := two_fr (w1 := w4.alloc (.cells #[.int .i64 0, .bool false] 43)) rfl (G.refl _)
              have hbm : W1.heap.size ≤ w4.heap.size := g4.size
              obtain ⟨v0, v1, v2, v3, v4, v5⟩ := hN.out.later gq
              dsimp only at v0 v1 v2 v3 v4 v5
              simp only [Nat.zero_add] at v1 v2 v3 v4 v5
              have yc' := gq.at yc1
              have zc' := gq.at zc1
              refine hKc.out _ _ (by ((try dsimp only); first | (with_reducible assumption) | ((repeat' (with_reducible apply And.intro)) <;> go_simp))) (fun hH2 => ?_)
              clear hKc Kc hH1
              clear v0 v1 v2 v3 v4 v5 yc' zc'
              generalize w4.heap.size = bm at *
              generalize w4.alloc (.cells #[.int .i64 0, .bool false] 43) = w5 at *
              clear g4
              refine wpAnyH_ready (rs := [21]) (by kernel_rfl) (by simp) ?_
              refine (AllReadyH.cons (o := { dst := none, op := Go.Op.store 43 (Go.Operand.tmp 12) (Go.Operand.tmp 50), type := 0, pos := "accidental.go:81", after := #[{ on := 20, ground := Go.Ground.data }, { on := 19, ground := Go.Ground.data }, { on := 19, ground := Go.Ground.chain }, { on := 0, ground := Go.Ground.phase }, { on := 1, ground := Go.Ground.phase }, { on := 2, ground := Go.Ground.phase }, { on := 3, ground := Go.Ground.phase }, { on := 4, ground := Go.Ground.phase }, { on := 5, ground := Go.Ground.phase }, { on := 6, ground := Go.Ground.phase }, { on := 7, ground := Go.Ground.phase }, { on := 8, ground := Go.Ground.phase }, { on := 9, ground := Go.Ground.phase }, { on := 10, ground := Go.Ground.phase }, { on := 11, ground := Go.Ground.phase }, { on := 12, ground := Go.Ground.phase }, { on := 13, ground := Go.Ground.phase }, { on := 14, ground := Go.Ground.phase }, { on := 15, ground := Go.Ground.phase }, { on := 16, ground := Go.Ground.phase }, { on := 17, ground := Go.Ground.phase }, { on := 18, ground := Go.Ground.phase }, { on := 19, ground := Go.Ground.phase }, { on := 20, ground := Go.Ground.phase }], guard := none }) rfl (fun Kc hKc => ?_) AllReadyH.nil)
              obtain ⟨v0, v1, v2, v3, v4, v5⟩ := hN.out.later gq
              dsimp only at v0 v1 v2 v3 v4 v5
              simp only [Nat.zero_add] at v1 v2 v3 v4 v5
              have yc' := gq.at yc1
              have zc' := gq.at zc1
              have far : ∀ {q j : Nat} {u : Value}, bm ≠ q → w5.cell? ⟨q, j, none⟩ = some u → ((w5.setCell ⟨bm, 0, none⟩ (.int .i64 K)).setCell ⟨bm, 1, none⟩ (.bool PB)).cell? ⟨q, j, none⟩ = some u := fun h1 h2 => by
                rw [World.cell?_setCell_far _ _ _ _ h1, World.cell?_setCell_far _ _ _ _ h1]; exact h2
              go_simp
              refine hKc.out _ _ ⟨far (by omega) v0, far (by omega) v1, far (by omega) v2, far (by omega) v3, far (by omega) v4, far (by omega) v5, far (by omega) yc', far (by omega) zc'⟩ (fun hHs => ?_)
              clear hKc Kc hHs far v0 v1 v2 v3 v4 v5 yc' zc'
              refine wpAnyH_done (by kernel_rfl) ?_ _
              have g5 := gq
              clear gq
              obtain ⟨cK, cP⟩ := two_set (u := .int .i64 K) (v := .bool PB) m0 m1
              have gZ : G W1 ((w5.setCell ⟨bm, 0, none⟩ (.int .i64 K)).setCell ⟨bm, 1, none⟩ (.bool PB)) := (g5.setCell (p := ⟨bm, 0, none⟩) hbm _).setCell (p := ⟨bm, 1, none⟩) hbm _
              generalize (w5.setCell ⟨bm, 0, none⟩ (.int .i64 K)).setCell ⟨bm, 1, none⟩ (.bool PB) = W5 at *
              have gW := gW1.trans gZ
              have hsz5 := gZ.size
              have R5 := Lib.hid (hR.out.later gW)
              have A65 := Lib.hid (hA6.out.later gW)
              have A55 := Lib.hid (hA5.out.later gW)
              have C5 := Lib.hid (hCl.out.later gW)
              have gw5 := Lib.hid (gr.trans gW)
              obtain ⟨u0, u1, u2, u3, u4, u5⟩ := (hN.out.later gZ)
              dsimp only at u0 u1 u2 u3 u4 u5
              simp only [Nat.zero_add] at u1 u2 u3 u4 u5
              obtain ⟨s6, f6⟩ := A65.out pn p2
              rw [← HPN.out] at s6
              have A66 := Lib.hid (A65.out.set p0 p1 al)
              rw [hpn2] at A66
              have R6 := Lib.hid (R5.out.far (b := b6) (by omega) pn (.int .i64 al))
              have C6 := Lib.hid (show Cls (W5.setCell ⟨b6, pn, none⟩ (.int .i64 al)) g l.length h by
                intro j hj
                refine ⟨?_, by simp [go_sem]; exact (C5.out j hj).2⟩
                rw [World.cell?_setCell_far _ _ _ _ (show b6 ≠ g by omega)]; exact (C5.out j hj).1)
              have A56 := Lib.hid (show Arr (W5.setCell ⟨b6, pn, none⟩ (.int .i64 al)) b5 (fun _ => 0) by
                intro j hj
                refine ⟨?_, by simp [go_sem]; exact (A55.out j hj).2⟩
                rw [World.cell?_setCell_far _ _ _ _ (show b6 ≠ b5 by omega)]; exact (A55.out j hj).1)
              have gw6 := Lib.hid (gw5.out.setCell (p := ⟨b6, pn, none⟩) (by have := hb5.out; show w.heap.size ≤ b6; omega) (.int .i64 al))
              have cK6 : (W5.setCell ⟨b6, pn, none⟩ (.int .i64 al)).cell? ⟨bm, 0, none⟩ = some (.int .i64 K) := by rw [World.cell?_setCell_far _ _ _ _ (show b6 ≠ bm by omega)]; exact cK
              have cP6 : (W5.setCell ⟨b6, pn, none⟩ (.int .i64 al)).cell? ⟨bm, 1, none⟩ = some (.bool PB) := by rw [World.cell?_setCell_far _ _ _ _ (show b6 ≠ bm by omega)]; exact cP
              go_wp2_with (at_builtin; refine wpList_append_own _ rfl _ _ 24 rfl base 43 i0 (.agg #[.int .i64 0, .bool false]) 2 16 Tryd.underlying24 hi hz0 hz1 hz2 rfl (by decide) v M.length (M.flatMap mkE) rfl (R6.out.later (by (repeat' (first | (with_reducible exact G.refl _) | (with_reducible assumption) | (with_reducible refine G.drewN ?_ _) | (with_reducible refine G.drew ?_) | (with_reducible refine G.alloc ?_ _) | (with_reducible refine G.setCell ?_ (by first | (with_reducible exact Nat.le_refl _) | (simp; done) | (simp; omega) | omega) _) | (with_reducible refine G.trans ?_ (by assumption)))))) ⟨W5.heap.size, 0, none⟩ 1 1 [.int .i64 K, .bool PB] rfl rfl (new_add _ _ [.int .i64 K, .bool PB] _ (by simp [go_sem])) (by simp [Value.oneCell']) (by unfold maxLen; omega) (by omega) (by simp [go_sem]; omega) ?_; intro v' w6 hown' hgrow _)
              have RN := Lib.hid (Row.more (enc := mkE) (M := M) (x := (K, PB)) hown')
              have AN := Lib.hid (show Arr w6 b6 (nx K ⟨t, s, al, o, true, sh⟩ F) by rw [HXP.out, if_neg HK0.out]; exact (A66.out).more hgrow (Row.ne R6.out (by omega)))
              have A5N := Lib.hid ((A56.out).more hgrow (Row.ne R6.out (by omega)))
              have CN := Lib.hid ((C6.out).more hgrow (Row.ne R6.out (by omega)))
              have gN : G w w6 := (gw6.out).more hgrow (fun k hk => by have := Row.own R6.out k hk; have := hb5.out; omega)
              have hsN := hgrow.size
              go_roundg (l.length - (i + 1))
              case measure => have := HQ.out; omega
              case rel => exact ⟨i + 1, v', M ++ [(K, PB)], _, rfl, by first | rfl | simp, rfl, by omega, by rw [List.length_append, HM.out]; rfl, HD2, HDF2, RN, AN, A5N, CN, gN, by simp [go_sem] at hsN; omega⟩
            · go_simp
              have gq : G W1 (W1.drew.alloc (.cells #[.int .i64 0, .bool false] 43)) := by (repeat' (first | (with_reducible exact G.refl _) | (with_reducible refine G.drewN ?_ _) | (with_reducible refine G.drew ?_) | (with_reducible refine G.alloc ?_ _)))
              obtain ⟨v0, v1, v2, v3, v4, v5⟩ := hN.out.later gq
              dsimp only at v0 v1 v2 v3 v4 v5
              simp only [Nat.zero_add] at v1 v2 v3 v4 v5
              have yc' := gq.at yc1
              have zc' := gq.at zc1
              refine hKc.out _ _ (by ((try dsimp only); first | (with_reducible assumption) | ((repeat' (with_reducible apply And.intro)) <;> go_simp))) (fun hH4 => ?_)
              clear hKc Kc hH0
              clear v0 v1 v2 v3 v4 v5 yc' zc'
              have g4 := gq
              clear gq
              refine wpAnyH_ready (rs := [19]) (by kernel_rfl) (by simp) ?_
              refine (AllReadyH.cons (o := { dst := some 50, op := Go.Op.call { callee := Go.Callee.value (Go.Operand.func 38), args := #[Go.Operand.tmp 31, Go.Operand.tmp 49], argTypes := #[65, 4] }, type := 43, pos := "accidental.go:81", after := #[{ on := 0, ground := Go.Ground.data }, { on := 18, ground := Go.Ground.data }, { on := 9, ground := Go.Ground.chain }], guard := none }) rfl (fun Kc hKc => ?_) AllReadyH.nil)
              go_simp
              go_at_call 38
              refine (mark_any _ _ _ _ _ _ _ _ HAL.out).mono ?_
              rintro e w5 ⟨rfl, hG5⟩
              rw [HK.out, HPB.out]
              have gq : G W1 w5 := G.trans (by (repeat' (first | (with_reducible exact G.refl _) | (with_reducible refine G.drewN ?_ _) | (with_reducible refine G.drew ?_) | (with_reducible refine G.alloc ?_ _)))) hG5
              have hG6 : G (W1.alloc (.cells #[.int .i64 0, .bool false] 43)) w5 := G.trans (G.drew (G.refl _)) hG5
              obtain ⟨⟨m0, m1⟩, m2, m3⟩ := two_fr rfl hG6
              obtain ⟨bm, hbmv⟩ : ∃ z : Nat, W1.heap.size = z := ⟨_, rfl⟩
              have hbm : W1.heap.size ≤ bm := by omega
              rw [hbmv] at m0 m1 m2 m3
              try rw [hbmv]
              obtain ⟨v0, v1, v2, v3, v4, v5⟩ := hN.out.later gq
              dsimp only at v0 v1 v2 v3 v4 v5
              simp only [Nat.zero_add] at v1 v2 v3 v4 v5
              have yc' := gq.at yc1
              have zc' := gq.at zc1
              refine hKc.out _ _ (by ((try dsimp only); first | (with_reducible assumption) | ((repeat' (with_reducible apply And.intro)) <;> go_simp))) (fun hH5 => ?_)
              clear hKc Kc hH4
              clear v0 v1 v2 v3 v4 v5 yc' zc'
              clear hG5 hG6 g4
              refine wpAnyH_ready (rs := [21]) (by kernel_rfl) (by simp) ?_
              refine (AllReadyH.cons (o := { dst := none, op := Go.Op.store 43 (Go.Operand.tmp 12) (Go.Operand.tmp 50), type := 0, pos := "accidental.go:81", after := #[{ on := 20, ground := Go.Ground.data }, { on := 19, ground := Go.Ground.data }, { on := 19, ground := Go.Ground.chain }, { on := 0, ground := Go.Ground.phase }, { on := 1, ground := Go.Ground.phase }, { on := 2, ground := Go.Ground.phase }, { on := 3, ground := Go.Ground.phase }, { on := 4, ground := Go.Ground.phase }, { on := 5, ground := Go.Ground.phase }, { on := 6, ground := Go.Ground.phase }, { on := 7, ground := Go.Ground.phase }, { on := 8, ground := Go.Ground.phase }, { on := 9, ground := Go.Ground.phase }, { on := 10, ground := Go.Ground.phase }, { on := 11, ground := Go.Ground.phase }, { on := 12, ground := Go.Ground.phase }, { on := 13, ground := Go.Ground.phase }, { on := 14, ground := Go.Ground.phase }, { on := 15, ground := Go.Ground.phase }, { on := 16, ground := Go.Ground.phase }, { on := 17, ground := Go.Ground.phase }, { on := 18, ground := Go.Ground.phase }, { on := 19, ground := Go.Ground.phase }, { on := 20, ground := Go.Ground.phase }], guard := none }) rfl (fun Kc hKc => ?_) AllReadyH.nil)
              obtain ⟨v0, v1, v2, v3, v4, v5⟩ := hN.out.later gq
              dsimp only at v0 v1 v2 v3 v4 v5
              simp only [Nat.zero_add] at v1 v2 v3 v4 v5
              have yc' := gq.at yc1
              have zc' := gq.at zc1
              have far : ∀ {q j : Nat} {u : Value}, bm ≠ q → w5.cell? ⟨q, j, none⟩ = some u → ((w5.setCell ⟨bm, 0, none⟩ (.int .i64 K)).setCell ⟨bm, 1, none⟩ (.bool PB)).cell? ⟨q, j, none⟩ = some u := fun h1 h2 => by
                rw [World.cell?_setCell_far _ _ _ _ h1, World.cell?_setCell_far _ _ _ _ h1]; exact h2
              go_simp
              refine hKc.out _ _ ⟨far (by omega) v0, far (by omega) v1, far (by omega) v2, far (by omega) v3, far (by omega) v4, far (by omega) v5, far (by omega) yc', far (by omega) zc'⟩ (fun hHs => ?_)
              clear hKc Kc hHs far v0 v1 v2 v3 v4 v5 yc' zc'
              refine wpAnyH_done (by kernel_rfl) ?_ _
              have g5 := gq
              clear gq
              obtain ⟨cK, cP⟩ := two_set (u := .int .i64 K) (v := .bool PB) m0 m1
              have gZ : G W1 ((w5.setCell ⟨bm, 0, none⟩ (.int .i64 K)).setCell ⟨bm, 1, none⟩ (.bool PB)) := (g5.setCell (p := ⟨bm, 0, none⟩) hbm _).setCell (p := ⟨bm, 1, none⟩) hbm _
              generalize (w5.setCell ⟨bm, 0, none⟩ (.int .i64 K)).setCell ⟨bm, 1, none⟩ (.bool PB) = W5 at *
              have gW := gW1.trans gZ
              have hsz5 := gZ.size
              have R5 := Lib.hid (hR.out.later gW)
              have A65 := Lib.hid (hA6.out.later gW)
              have A55 := Lib.hid (hA5.out.later gW)
              have C5 := Lib.hid (hCl.out.later gW)
              have gw5 := Lib.hid (gr.trans gW)
              obtain ⟨u0, u1, u2, u3, u4, u5⟩ := (hN.out.later gZ)
              dsimp only at u0 u1 u2 u3 u4 u5
              simp only [Nat.zero_add] at u1 u2 u3 u4 u5
              obtain ⟨s6, f6⟩ := A65.out pn p2
              rw [← HPN.out] at s6
              have A66 := Lib.hid (A65.out.set p0 p1 al)
              rw [hpn2] at A66
              have R6 := Lib.hid (R5.out.far (b := b6) (by omega) pn (.int .i64 al))
              have C6 := Lib.hid (show Cls (W5.setCell ⟨b6, pn, none⟩ (.int .i64 al)) g l.length h by
                intro j hj
                refine ⟨?_, by simp [go_sem]; exact (C5.out j hj).2⟩
                rw [World.cell?_setCell_far _ _ _ _ (show b6 ≠ g by omega)]; exact (C5.out j hj).1)
              have A56 := Lib.hid (show Arr (W5.setCell ⟨b6, pn, none⟩ (.int .i64 al)) b5 (fun _ => 0) by
                intro j hj
                refine ⟨?_, by simp [go_sem]; exact (A55.out j hj).2⟩
                rw [World.cell?_setCell_far _ _ _ _ (show b6 ≠ b5 by omega)]; exact (A55.out j hj).1)
              have gw6 := Lib.hid (gw5.out.setCell (p := ⟨b6, pn, none⟩) (by have := hb5.out; show w.heap.size ≤ b6; omega) (.int .i64 al))
              have cK6 : (W5.setCell ⟨b6, pn, none⟩ (.int .i64 al)).cell? ⟨bm, 0, none⟩ = some (.int .i64 K) := by rw [World.cell?_setCell_far _ _ _ _ (show b6 ≠ bm by omega)]; exact cK
              have cP6 : (W5.setCell ⟨b6, pn, none⟩ (.int .i64 al)).cell? ⟨bm, 1, none⟩ = some (.bool PB) := by rw [World.cell?_setCell_far _ _ _ _ (show b6 ≠ bm by omega)]; exact cP
              go_wp2_with (at_builtin; refine wpList_append_own _ rfl _ _ 24 rfl base 43 i0 (.agg #[.int .i64 0, .bool false]) 2 16 Tryd.underlying24 hi hz0 hz1 hz2 rfl (by decide) v M.length (M.flatMap mkE) rfl (R6.out.later (by (repeat' (first | (with_reducible exact G.refl _) | (with_reducible assumption) | (with_reducible refine G.drewN ?_ _) | (with_reducible refine G.drew ?_) | (with_reducible refine G.alloc ?_ _) | (with_reducible refine G.setCell ?_ (by first | (with_reducible exact Nat.le_refl _) | (simp; done) | (simp; omega) | omega) _) | (with_reducible refine G.trans ?_ (by assumption)))))) ⟨W5.heap.size, 0, none⟩ 1 1 [.int .i64 K, .bool PB] rfl rfl (new_add _ _ [.int .i64 K, .bool PB] _ (by simp [go_sem])) (by simp [Value.oneCell']) (by unfold maxLen; omega) (by omega) (by simp [go_sem]; omega) ?_; intro v' w6 hown' hgrow _)
              have RN := Lib.hid (Row.more (enc := mkE) (M := M) (x := (K, PB)) hown')
              have AN := Lib.hid (show Arr w6 b6 (nx K ⟨t, s, al, o, true, sh⟩ F) by rw [HXP.out, if_neg HK0.out]; exact (A66.out).more hgrow (Row.ne R6.out (by omega)))
              have A5N := Lib.hid ((A56.out).more hgrow (Row.ne R6.out (by omega)))
              have CN := Lib.hid ((C6.out).more hgrow (Row.ne R6.out (by omega)))
              have gN : G w w6 := (gw6.out).more hgrow (fun k hk => by have := Row.own R6.out k hk; have := hb5.out; omega)
              have hsN := hgrow.size
              go_roundg (l.length - (i + 1))
              case measure => have := HQ.out; omega
              case rel => exact ⟨i + 1, v', M ++ [(K, PB)], _, rfl, by first | rfl | simp, rfl, by omega, by rw [List.length_append, HM.out]; rfl, HD2, HDF2, RN, AN, A5N, CN, gN, by simp [go_sem] at hsN; omega⟩
        · obtain rfl : hd = false := by simpa using hh
          clear hh
          by_cases he : al = FP
          · have ke : (al == FP) = true := by rw [he]; simp
            have ke2 : (al != FP) = false := by simp [bne, ke]
            obtain rfl : D = false := by rw [HDC.out, he]; simp
            clear HDC he
            have HK := Lib.hid hK.out.symm
            have HPB := Lib.hid hPB.out.symm
            by_cases K0 : K = 0
            · have b3 : (K == 0) = true := by rw [K0]; rfl
              have b4 : (K != 0) = false := by rw [K0]; rfl
              have HK0 := Lib.hid K0
              clear K0
              go_wp2_with fail
              refine (index_any s o _ HPOS.out).mono ?_
              rintro e w4 ⟨rfl, rfl⟩
              rw [← hP.out]
              go_wp2_with fail
              have gW1 : G wr (wr.alloc (.cells #[.int .i64 t, .int .i64 s, .int .i64 al, .int .i64 o, .bool false, .int .i64 sh] 65)) := by (repeat' (first | (with_reducible exact G.refl _) | (with_reducible assumption) | (with_reducible refine G.drewN ?_ _) | (with_reducible refine G.drew ?_) | (with_reducible refine G.alloc ?_ _) | (with_reducible refine G.setCell ?_ (by first | (with_reducible exact Nat.le_refl _) | (simp; done) | (simp; omega) | omega) _) | (with_reducible refine G.trans ?_ (by assumption))))
              have hN : Hid (Nt6 (wr.alloc (.cells #[.int .i64 t, .int .i64 s, .int .i64 al, .int .i64 o, .bool false, .int .i64 sh] 65)) wr.heap.size 0 ⟨t, s, al, o, false, sh⟩) := Lib.hid (six_at (W := wr) rfl (G.refl _))
              have yc1 := gW1.at yc
              have zc1 := gW1.at zc6
              obtain ⟨u0, u1, u2, u3, u4, u5⟩ := hN.out
              dsimp only at u0 u1 u2 u3 u4 u5
              simp only [Nat.zero_add] at u1 u2 u3 u4 u5
              generalize wr.alloc (.cells #[.int .i64 t, .int .i64 s, .int .i64 al, .int .i64 o, .bool false, .int .i64 sh] 65) = W1 at *
              have ltn := cell_lt u0
              have ltg := cell_lt yc1
              have lt61 := cell_lt zc1
              simp only at ltn ltg lt61
              generalize wr.heap.size = bn at *
              refine wp_region_held_drew (S := fun w' => w'.cell? ⟨bn, 0, none⟩ = some (.int .i64 t) ∧ w'.cell? ⟨bn, 1, none⟩ = some (.int .i64 s) ∧ w'.cell? ⟨bn, 2, none⟩ = some (.int .i64 al) ∧ w'.cell? ⟨bn, 3, none⟩ = some (.int .i64 o) ∧ w'.cell? ⟨bn, 4, none⟩ = some (.bool false) ∧ w'.cell? ⟨bn, 5, none⟩ = some (.int .i64 sh) ∧ w'.cell? ⟨g, i, none⟩ = some (.bool false) ∧ w'.cell? ⟨b6, pn, none⟩ = some (.int .i64 FP)) (by kernel_rfl) (by ((try dsimp only); first | (with_reducible assumption) | ((repeat' (with_reducible apply And.intro)) <;> go_simp))) (fun hH0 => ?_)
              refine wpAnyH_take (i := 0) (oi := { dst := some 31, op := Go.Op.load 65 (Go.Operand.tmp 10), type := 65, pos := "accidental.go:81", after := #[], guard := none }) (v := ?_) rfl (by kernel_rfl) (by kernel_rfl) (by kernel_rfl) (fun _ _ _ h => h) (Or.inl ⟨by rfl, ?_⟩) (by assumption) ?_
              rotate_left
              · (intro w hSw; (try dsimp only at hSw); go_simp) <;> (with_reducible rfl)
              simp only [Act.put, List.setIfInBounds_toArray, List.set_cons_zero, List.set_cons_succ]
              refine wpAnyH_take (i := 1) (oi := { dst := some 32, op := Go.Op.move (Go.Operand.tmp 8), type := 76, pos := "accidental.go:81", after := #[], guard := none }) (v := ?_) rfl (by kernel_rfl) (by kernel_rfl) (by kernel_rfl) (fun _ _ _ h => h) (Or.inl ⟨by rfl, ?_⟩) (by assumption) ?_
              rotate_left
              · (intro w hSw; (try dsimp only at hSw); go_simp) <;> (with_reducible rfl)
              simp only [Act.put, List.setIfInBounds_toArray, List.set_cons_zero, List.set_cons_succ]
              refine wpAnyH_take (i := 2) (oi := { dst := some 33, op := Go.Op.move (Go.Operand.tmp 9), type := 3, pos := "accidental.go:81", after := #[], guard := none }) (v := ?_) rfl (by kernel_rfl) (by kernel_rfl) (by kernel_rfl) (fun _ _ _ h => h) (Or.inl ⟨by rfl, ?_⟩) (by assumption) ?_
              rotate_left
              · (intro w hSw; (try dsimp only at hSw); go_simp) <;> (with_reducible rfl)
              simp only [Act.put, List.setIfInBounds_toArray, List.set_cons_zero, List.set_cons_succ]
              refine wpAnyH_take (i := 3) (oi := { dst := some 34, op := Go.Op.indexAddr 76 (Go.Operand.tmp 32) (Go.Operand.tmp 33), type := 0, pos := "accidental.go:81", after := #[{ on := 1, ground := Go.Ground.data }, { on := 2, ground := Go.Ground.data }], guard := none }) (v := ?_) rfl (by kernel_rfl) (by kernel_rfl) (by kernel_rfl) (fun _ _ _ h => h) (Or.inl ⟨by rfl, ?_⟩) (by assumption) ?_
              rotate_left
              · (intro w hSw; (try dsimp only at hSw); go_simp) <;> (with_reducible rfl)
              simp only [Act.put, List.setIfInBounds_toArray, List.set_cons_zero, List.set_cons_succ]
              refine wpAnyH_take (i := 4) (oi := { dst := some 35, op := Go.Op.load 4 (Go.Operand.tmp 34), type := 4, pos := "accidental.go:81", after := #[{ on := 3, ground := Go.Ground.data }], guard := none }) (v := ?_) rfl (by kernel_rfl) (by kernel_rfl) (by kernel_rfl) (fun _ _ _ h => h) (Or.inl ⟨by rfl, ?_⟩) (by assumption) ?_
              rotate_left
              · (intro w hSw; (try dsimp only at hSw); go_simp) <;> (with_reducible rfl)
              simp only [Act.put, List.setIfInBounds_toArray, List.set_cons_zero, List.set_cons_succ]
              refine wpAnyH_take (i := 5) (oi := { dst := some 36, op := Go.Op.move (Go.Operand.tmp 35), type := 4, pos := "accidental.go:81", after := #[{ on := 4, ground := Go.Ground.data }], guard := none }) (v := ?_) rfl (by kernel_rfl) (by kernel_rfl) (by kernel_rfl) (fun _ _ _ h => h) (Or.inl ⟨by rfl, ?_⟩) (by assumption) ?_
              rotate_left
              · (intro w hSw; (try dsimp only at hSw); go_simp) <;> (with_reducible rfl)
              simp only [Act.put, List.setIfInBounds_toArray, List.set_cons_zero, List.set_cons_succ]
              refine wpAnyH_take (i := 6) (oi := { dst := some 37, op := Go.Op.fieldAddr 65 (Go.Operand.tmp 10) 2, type := 0, pos := "accidental.go:81", after := #[{ on := 5, ground := Go.Ground.guard }], guard := some (5, false) }) (v := ?_) rfl (by kernel_rfl) (by kernel_rfl) (by kernel_rfl) (fun _ _ _ h => h) (Or.inl ⟨by rfl, ?_⟩) (by assumption) ?_
              rotate_left
              · (intro w hSw; (try dsimp only at hSw); go_simp) <;> (with_reducible rfl)
              simp only [Act.put, List.setIfInBounds_toArray, List.set_cons_zero, List.set_cons_succ]
              refine wpAnyH_take (i := 7) (oi := { dst := some 38, op := Go.Op.load 4 (Go.Operand.tmp 37), type := 4, pos := "accidental.go:81", after := #[{ on := 6, ground := Go.Ground.data }, { on := 5, ground := Go.Ground.guard }], guard := some (5, false) }) (v := ?_) rfl (by kernel_rfl) (by kernel_rfl) (by kernel_rfl) (fun _ _ _ h => h) (Or.inl ⟨by rfl, ?_⟩) (by assumption) ?_
              rotate_left
              · (intro w hSw; (try dsimp only at hSw); go_simp) <;> (with_reducible rfl)
              simp only [Act.put, List.setIfInBounds_toArray, List.set_cons_zero, List.set_cons_succ]
              refine wpAnyH_take (i := 8) (oi := { dst := some 39, op := Go.Op.unOp Go.UnOp.not 4 (Go.Operand.tmp 38), type := 4, pos := "accidental.go:81", after := #[{ on := 7, ground := Go.Ground.data }, { on := 5, ground := Go.Ground.guard }], guard := some (5, false) }) (v := ?_) rfl (by kernel_rfl) (by kernel_rfl) (by kernel_rfl) (fun _ _ _ h => h) (Or.inl ⟨by rfl, ?_⟩) (by assumption) ?_
              rotate_left
              · (intro w hSw; (try dsimp only at hSw); go_simp) <;> (with_reducible rfl)
              simp only [Act.put, List.setIfInBounds_toArray, List.set_cons_zero, List.set_cons_succ]
              refine wpAnyH_take (i := 9) (oi := { dst := some 40, op := Go.Op.move (Go.Operand.tmp 39), type := 4, pos := "accidental.go:81", after := #[{ on := 8, ground := Go.Ground.data }, { on := 5, ground := Go.Ground.chain }, { on := 5, ground := Go.Ground.guard }], guard := some (5, false) }) (v := ?_) rfl (by kernel_rfl) (by kernel_rfl) (by kernel_rfl) (fun _ _ _ h => h) (Or.inl ⟨by rfl, ?_⟩) (by assumption) ?_
              rotate_left
              · (intro w hSw; (try dsimp only at hSw); go_simp) <;> (with_reducible rfl)
              simp only [Act.put, List.setIfInBounds_toArray, List.set_cons_zero, List.set_cons_succ]
              refine wpAnyH_take (i := 10) (oi := { dst := some 41, op := Go.Op.fieldAddr 65 (Go.Operand.tmp 10) 1, type := 0, pos := "accidental.go:81", after := #[{ on := 9, ground := Go.Ground.guard }], guard := some (9, true) }) (v := ?_) rfl (by kernel_rfl) (by kernel_rfl) (by kernel_rfl) (fun _ _ _ h => h) (Or.inl ⟨by rfl, ?_⟩) (by assumption) ?_
              rotate_left
              · (intro w hSw; (try dsimp only at hSw); go_simp) <;> (with_reducible rfl)
              simp only [Act.put, List.setIfInBounds_toArray, List.set_cons_zero, List.set_cons_succ]
              refine wpAnyH_take (i := 11) (oi := { dst := some 42, op := Go.Op.fieldAddr 52 (Go.Operand.tmp 41) 1, type := 0, pos := "accidental.go:81", after := #[{ on := 10, ground := Go.Ground.data }, { on := 9, ground := Go.Ground.guard }], guard := some (9, true) }) (v := ?_) rfl (by kernel_rfl) (by kernel_rfl) (by kernel_rfl) (fun _ _ _ h => h) (Or.inl ⟨by rfl, ?_⟩) (by assumption) ?_
              rotate_left
              · (intro w hSw; (try dsimp only at hSw); go_simp) <;> (with_reducible rfl)
              simp only [Act.put, List.setIfInBounds_toArray, List.set_cons_zero, List.set_cons_succ]
              refine wpAnyH_take (i := 12) (oi := { dst := some 43, op := Go.Op.load 3 (Go.Operand.tmp 42), type := 3, pos := "accidental.go:81", after := #[{ on := 11, ground := Go.Ground.data }, { on := 9, ground := Go.Ground.guard }], guard := some (9, true) }) (v := ?_) rfl (by kernel_rfl) (by kernel_rfl) (by kernel_rfl) (fun _ _ _ h => h) (Or.inl ⟨by rfl, ?_⟩) (by assumption) ?_
              rotate_left
              · (intro w hSw; (try dsimp only at hSw); go_simp) <;> (with_reducible rfl)
              simp only [Act.put, List.setIfInBounds_toArray, List.set_cons_zero, List.set_cons_succ]
              refine wpAnyH_take (i := 13) (oi := { dst := some 44, op := Go.Op.move (Go.Operand.tmp 11), type := 3, pos := "accidental.go:81", after := #[{ on := 9, ground := Go.Ground.guard }], guard := some (9, true) }) (v := ?_) rfl (by kernel_rfl) (by kernel_rfl) (by kernel_rfl) (fun _ _ _ h => h) (Or.inl ⟨by rfl, ?_⟩) (by assumption) ?_
              rotate_left
              · (intro w hSw; (try dsimp only at hSw); go_simp) <;> (with_reducible rfl)
              simp only [Act.put, List.setIfInBounds_toArray, List.set_cons_zero, List.set_cons_succ]
              refine wpAnyH_take (i := 14) (oi := { dst := some 45, op := Go.Op.indexAddr 58 (Go.Operand.tmp 6) (Go.Operand.tmp 44), type := 0, pos := "accidental.go:81", after := #[{ on := 13, ground := Go.Ground.data }, { on := 9, ground := Go.Ground.guard }], guard := some (9, true) }) (v := ?_) rfl (by kernel_rfl) (by kernel_rfl) (by kernel_rfl) (fun _ _ _ h => h) (Or.inl ⟨by rfl, ?_⟩) (by assumption) ?_
              rotate_left
              · (intro w hSw; (try dsimp only at hSw); go_simp) <;> (with_reducible rfl)
              simp only [Act.put, List.setIfInBounds_toArray, List.set_cons_zero, List.set_cons_succ]
              refine wpAnyH_take (i := 15) (oi := { dst := some 46, op := Go.Op.load 3 (Go.Operand.tmp 45), type := 3, pos := "accidental.go:81", after := #[{ on := 14, ground := Go.Ground.data }, { on := 9, ground := Go.Ground.guard }], guard := some (9, true) }) (v := ?_) rfl (by kernel_rfl) (by kernel_rfl) (by kernel_rfl) (fun _ _ _ h => h) (Or.inl ⟨by rfl, ?_⟩) (by assumption) ?_
              rotate_left
              · (intro w hSw; (try dsimp only at hSw); go_simp) <;> (with_reducible rfl)
              simp only [Act.put, List.setIfInBounds_toArray, List.set_cons_zero, List.set_cons_succ]
              refine wpAnyH_take (i := 16) (oi := { dst := some 47, op := Go.Op.binOp Go.BinOp.neq 3 (Go.Operand.tmp 43) (Go.Operand.tmp 46) 3, type := 4, pos := "accidental.go:81", after := #[{ on := 12, ground := Go.Ground.data }, { on := 15, ground := Go.Ground.data }, { on := 9, ground := Go.Ground.guard }], guard := some (9, true) }) (v := ?_) rfl (by kernel_rfl) (by kernel_rfl) (by kernel_rfl) (fun _ _ _ h => h) (Or.inl ⟨by rfl, ?_⟩) (by assumption) ?_
              rotate_left
              · (intro w hSw; (try dsimp only at hSw); go_simp) <;> (with_reducible rfl)
              simp only [Act.put, List.setIfInBounds_toArray, List.set_cons_zero, List.set_cons_succ]
              refine wpAnyH_take (i := 17) (oi := { dst := some 48, op := Go.Op.pick (Go.Operand.tmp 40) (Go.Operand.tmp 47) (Go.Operand.const (Go.Value.bool false)), type := 4, pos := "accidental.go:81", after := #[{ on := 9, ground := Go.Ground.data }, { on := 16, ground := Go.Ground.data }, { on := 5, ground := Go.Ground.guard }], guard := some (5, false) }) (v := ?_) rfl (by kernel_rfl) (by kernel_rfl) (by kernel_rfl) (fun _ _ _ h => h) (Or.inl ⟨by rfl, ?_⟩) (by assumption) ?_
              rotate_left
              · (intro w hSw; (try dsimp only at hSw); go_simp) <;> (with_reducible rfl)
              simp only [Act.put, List.setIfInBounds_toArray, List.set_cons_zero, List.set_cons_succ]
              refine wpAnyH_take (i := 18) (oi := { dst := some 49, op := Go.Op.pick (Go.Operand.tmp 36) (Go.Operand.const (Go.Value.bool true)) (Go.Operand.tmp 48), type := 4, pos := "accidental.go:81", after := #[{ on := 5, ground := Go.Ground.data }, { on := 17, ground := Go.Ground.data }], guard := none }) (v := ?_) rfl (by kernel_rfl) (by kernel_rfl) (by kernel_rfl) (fun _ _ _ h => h) (Or.inl ⟨by rfl, ?_⟩) (by assumption) ?_
              rotate_left
              · (intro w hSw; (try dsimp only at hSw); go_simp) <;> (with_reducible rfl)
              simp only [Act.put, List.setIfInBounds_toArray, List.set_cons_zero, List.set_cons_succ]
              refine wpAnyH_ready (rs := [19, 20]) (by kernel_rfl) (by simp) ?_
              refine (AllReadyH.cons (o := { dst := some 50, op := Go.Op.call { callee := Go.Callee.value (Go.Operand.func 38), args := #[Go.Operand.tmp 31, Go.Operand.tmp 49], argTypes := #[65, 4] }, type := 43, pos := "accidental.go:81", after := #[{ on := 0, ground := Go.Ground.data }, { on := 18, ground := Go.Ground.data }, { on := 9, ground := Go.Ground.chain }], guard := none }) rfl (fun Kc hKc => ?_) (AllReadyH.cons (o := { dst := some 12, op := Go.Op.alloc 43, type := 0, pos := "accidental.go:81", after := #[], guard := none }) rfl (fun Kc hKc => ?_) AllReadyH.nil))
              · go_simp
                go_at_call 38
                refine (mark_any _ _ _ _ _ _ _ _ HAL.out).mono ?_
                rintro e w4 ⟨rfl, hG4⟩
                rw [HK.out, HPB.out]
                have gq : G W1 w4 := G.trans (by (repeat' (first | (with_reducible exact G.refl _) | (with_reducible refine G.drewN ?_ _) | (with_reducible refine G.drew ?_) | (with_reducible refine G.alloc ?_ _)))) hG4
                obtain ⟨v0, v1, v2, v3, v4, v5⟩ := hN.out.later gq
                dsimp only at v0 v1 v2 v3 v4 v5
                simp only [Nat.zero_add] at v1 v2 v3 v4 v5
                have yc' := gq.at yc1
                have zc' := gq.at zc1
                refine hKc.out _ _ (by ((try dsimp only); first | (with_reducible assumption) | ((repeat' (with_reducible apply And.intro)) <;> go_simp))) (fun hH1 => ?_)
                clear hKc Kc hH0
                clear v0 v1 v2 v3 v4 v5 yc' zc'
                have g4 := gq
                clear gq hG4
                refine wpAnyH_ready (rs := [20]) (by kernel_rfl) (by simp) ?_
                refine (AllReadyH.cons (o := { dst := some 12, op := Go.Op.alloc 43, type := 0, pos := "accidental.go:81", after := #[], guard := none }) rfl (fun Kc hKc => ?_) AllReadyH.nil)
                go_simp
                have gq : G W1 (w4.alloc (.cells #[.int .i64 0, .bool false] 43)) := g4.alloc _
                obtain ⟨⟨m0, m1⟩, m2, m3⟩ := two_fr (w1 := w4.alloc (.cells #[.int .i64 0, .bool false] 43)) rfl (G.refl _)
                have hbm : W1.heap.size ≤ w4.heap.size := g4.size
                obtain ⟨v0, v1, v2, v3, v4, v5⟩ := hN.out.later gq
                dsimp only at v0 v1 v2 v3 v4 v5
                simp only [Nat.zero_add] at v1 v2 v3 v4 v5
                have yc' := gq.at yc1
                have zc' := gq.at zc1
                refine hKc.out _ _ (by ((try dsimp only); first | (with_reducible assumption) | ((repeat' (with_reducible apply And.intro)) <;> go_simp))) (fun hH2 => ?_)
                clear hKc Kc hH1
                clear v0 v1 v2 v3 v4 v5 yc' zc'
                generalize w4.heap.size = bm at *
                generalize w4.alloc (.cells #[.int .i64 0, .bool false] 43) = w5 at *
                clear g4
                refine wpAnyH_ready (rs := [21]) (by kernel_rfl) (by simp) ?_
                refine (AllReadyH.cons (o := { dst := none, op := Go.Op.store 43 (Go.Operand.tmp 12) (Go.Operand.tmp 50), type := 0, pos := "accidental.go:81", after := #[{ on := 20, ground := Go.Ground.data }, { on := 19, ground := Go.Ground.data }, { on := 19, ground := Go.Ground.chain }, { on := 0, ground := Go.Ground.phase }, { on := 1, ground := Go.Ground.phase }, { on := 2, ground := Go.Ground.phase }, { on := 3, ground := Go.Ground.phase }, { on := 4, ground := Go.Ground.phase }, { on := 5, ground := Go.Ground.phase }, { on := 6, ground := Go.Ground.phase }, { on := 7, ground := Go.Ground.phase }, { on := 8, ground := Go.Ground.phase }, { on := 9, ground := Go.Ground.phase }, { on := 10, ground := Go.Ground.phase }, { on := 11, ground := Go.Ground.phase }, { on := 12, ground := Go.Ground.phase }, { on := 13, ground := Go.Ground.phase }, { on := 14, ground := Go.Ground.phase }, { on := 15, ground := Go.Ground.phase }, { on := 16, ground := Go.Ground.phase }, { on := 17, ground := Go.Ground.phase }, { on := 18, ground := Go.Ground.phase }, { on := 19, ground := Go.Ground.phase }, { on := 20, ground := Go.Ground.phase }], guard := none }) rfl (fun Kc hKc => ?_) AllReadyH.nil)
                obtain ⟨v0, v1, v2, v3, v4, v5⟩ := hN.out.later gq
                dsimp only at v0 v1 v2 v3 v4 v5
                simp only [Nat.zero_add] at v1 v2 v3 v4 v5
                have yc' := gq.at yc1
                have zc' := gq.at zc1
                have far : ∀ {q j : Nat} {u : Value}, bm ≠ q → w5.cell? ⟨q, j, none⟩ = some u → ((w5.setCell ⟨bm, 0, none⟩ (.int .i64 K)).setCell ⟨bm, 1, none⟩ (.bool PB)).cell? ⟨q, j, none⟩ = some u := fun h1 h2 => by
                  rw [World.cell?_setCell_far _ _ _ _ h1, World.cell?_setCell_far _ _ _ _ h1]; exact h2
                go_simp
                refine hKc.out _ _ ⟨far (by omega) v0, far (by omega) v1, far (by omega) v2, far (by omega) v3, far (by omega) v4, far (by omega) v5, far (by omega) yc', far (by omega) zc'⟩ (fun hHs => ?_)
                clear hKc Kc hHs far v0 v1 v2 v3 v4 v5 yc' zc'
                refine wpAnyH_done (by kernel_rfl) ?_ _
                have g5 := gq
                clear gq
                obtain ⟨cK, cP⟩ := two_set (u := .int .i64 K) (v := .bool PB) m0 m1
                have gZ : G W1 ((w5.setCell ⟨bm, 0, none⟩ (.int .i64 K)).setCell ⟨bm, 1, none⟩ (.bool PB)) := (g5.setCell (p := ⟨bm, 0, none⟩) hbm _).setCell (p := ⟨bm, 1, none⟩) hbm _
                generalize (w5.setCell ⟨bm, 0, none⟩ (.int .i64 K)).setCell ⟨bm, 1, none⟩ (.bool PB) = W5 at *
                have gW := gW1.trans gZ
                have hsz5 := gZ.size
                have R5 := Lib.hid (hR.out.later gW)
                have A65 := Lib.hid (hA6.out.later gW)
                have A55 := Lib.hid (hA5.out.later gW)
                have C5 := Lib.hid (hCl.out.later gW)
                have gw5 := Lib.hid (gr.trans gW)
                obtain ⟨u0, u1, u2, u3, u4, u5⟩ := (hN.out.later gZ)
                dsimp only at u0 u1 u2 u3 u4 u5
                simp only [Nat.zero_add] at u1 u2 u3 u4 u5
                go_wp2_with (at_builtin; refine wpList_append_own _ rfl _ _ 24 rfl base 43 i0 (.agg #[.int .i64 0, .bool false]) 2 16 Tryd.underlying24 hi hz0 hz1 hz2 rfl (by decide) v M.length (M.flatMap mkE) rfl (R5.out.later (by (repeat' (first | (with_reducible exact G.refl _) | (with_reducible assumption) | (with_reducible refine G.drewN ?_ _) | (with_reducible refine G.drew ?_) | (with_reducible refine G.alloc ?_ _) | (with_reducible refine G.setCell ?_ (by first | (with_reducible exact Nat.le_refl _) | (simp; done) | (simp; omega) | omega) _) | (with_reducible refine G.trans ?_ (by assumption)))))) ⟨W5.heap.size, 0, none⟩ 1 1 [.int .i64 K, .bool PB] rfl rfl (new_add _ _ [.int .i64 K, .bool PB] _ (by simp [go_sem])) (by simp [Value.oneCell']) (by unfold maxLen; omega) (by omega) (by simp [go_sem]; omega) ?_; intro v' w6 hown' hgrow _)
                have RN := Lib.hid (Row.more (enc := mkE) (M := M) (x := (K, PB)) hown')
                have AN := Lib.hid (show Arr w6 b6 (nx K ⟨t, s, al, o, false, sh⟩ F) by rw [HXP.out, if_pos HK0.out]; exact (A65.out).more hgrow (Row.ne R5.out (by omega)))
                have A5N := Lib.hid ((A55.out).more hgrow (Row.ne R5.out (by omega)))
                have CN := Lib.hid ((C5.out).more hgrow (Row.ne R5.out (by omega)))
                have gN : G w w6 := (gw5.out).more hgrow (fun k hk => by have := Row.own R5.out k hk; have := hb5.out; omega)
                have hsN := hgrow.size
                go_roundg (l.length - (i + 1))
                case measure => have := HQ.out; omega
                case rel => exact ⟨i + 1, v', M ++ [(K, PB)], _, rfl, by first | rfl | simp, rfl, by omega, by rw [List.length_append, HM.out]; rfl, HD2, HDF2, RN, AN, A5N, CN, gN, by simp [go_sem] at hsN; omega⟩
              · go_simp
                have gq : G W1 (W1.drew.alloc (.cells #[.int .i64 0, .bool false] 43)) := by (repeat' (first | (with_reducible exact G.refl _) | (with_reducible refine G.drewN ?_ _) | (with_reducible refine G.drew ?_) | (with_reducible refine G.alloc ?_ _)))
                obtain ⟨v0, v1, v2, v3, v4, v5⟩ := hN.out.later gq
                dsimp only at v0 v1 v2 v3 v4 v5
                simp only [Nat.zero_add] at v1 v2 v3 v4 v5
                have yc' := gq.at yc1
                have zc' := gq.at zc1
                refine hKc.out _ _ (by ((try dsimp only); first | (with_reducible assumption) | ((repeat' (with_reducible apply And.intro)) <;> go_simp))) (fun hH4 => ?_)
                clear hKc Kc hH0
                clear v0 v1 v2 v3 v4 v5 yc' zc'
                have g4 := gq
                clear gq
                refine wpAnyH_ready (rs := [19]) (by kernel_rfl) (by simp) ?_
                refine (AllReadyH.cons (o := { dst := some 50, op := Go.Op.call { callee := Go.Callee.value (Go.Operand.func 38), args := #[Go.Operand.tmp 31, Go.Operand.tmp 49], argTypes := #[65, 4] }, type := 43, pos := "accidental.go:81", after := #[{ on := 0, ground := Go.Ground.data }, { on := 18, ground := Go.Ground.data }, { on := 9, ground := Go.Ground.chain }], guard := none }) rfl (fun Kc hKc => ?_) AllReadyH.nil)
                go_simp
                go_at_call 38
                refine (mark_any _ _ _ _ _ _ _ _ HAL.out).mono ?_
                rintro e w5 ⟨rfl, hG5⟩
                rw [HK.out, HPB.out]
                have gq : G W1 w5 := G.trans (by (repeat' (first | (with_reducible exact G.refl _) | (with_reducible refine G.drewN ?_ _) | (with_reducible refine G.drew ?_) | (with_reducible refine G.alloc ?_ _)))) hG5
                have hG6 : G (W1.alloc (.cells #[.int .i64 0, .bool false] 43)) w5 := G.trans (G.drew (G.refl _)) hG5
                obtain ⟨⟨m0, m1⟩, m2, m3⟩ := two_fr rfl hG6
                obtain ⟨bm, hbmv⟩ : ∃ z : Nat, W1.heap.size = z := ⟨_, rfl⟩
                have hbm : W1.heap.size ≤ bm := by omega
                rw [hbmv] at m0 m1 m2 m3
                try rw [hbmv]
                obtain ⟨v0, v1, v2, v3, v4, v5⟩ := hN.out.later gq
                dsimp only at v0 v1 v2 v3 v4 v5
                simp only [Nat.zero_add] at v1 v2 v3 v4 v5
                have yc' := gq.at yc1
                have zc' := gq.at zc1
                refine hKc.out _ _ (by ((try dsimp only); first | (with_reducible assumption) | ((repeat' (with_reducible apply And.intro)) <;> go_simp))) (fun hH5 => ?_)
                clear hKc Kc hH4
                clear v0 v1 v2 v3 v4 v5 yc' zc'
                clear hG5 hG6 g4
                refine wpAnyH_ready (rs := [21]) (by kernel_rfl) (by simp) ?_
                refine (AllReadyH.cons (o := { dst := none, op := Go.Op.store 43 (Go.Operand.tmp 12) (Go.Operand.tmp 50), type := 0, pos := "accidental.go:81", after := #[{ on := 20, ground := Go.Ground.data }, { on := 19, ground := Go.Ground.data }, { on := 19, ground := Go.Ground.chain }, { on := 0, ground := Go.Ground.phase }, { on := 1, ground := Go.Ground.phase }, { on := 2, ground := Go.Ground.phase }, { on := 3, ground := Go.Ground.phase }, { on := 4, ground := Go.Ground.phase }, { on := 5, ground := Go.Ground.phase }, { on := 6, ground := Go.Ground.phase }, { on := 7, ground := Go.Ground.phase }, { on := 8, ground := Go.Ground.phase }, { on := 9, ground := Go.Ground.phase }, { on := 10, ground := Go.Ground.phase }, { on := 11, ground := Go.Ground.phase }, { on := 12, ground := Go.Ground.phase }, { on := 13, ground := Go.Ground.phase }, { on := 14, ground := Go.Ground.phase }, { on := 15, ground := Go.Ground.phase }, { on := 16, ground := Go.Ground.phase }, { on := 17, ground := Go.Ground.phase }, { on := 18, ground := Go.Ground.phase }, { on := 19, ground := Go.Ground.phase }, { on := 20, ground := Go.Ground.phase }], guard := none }) rfl (fun Kc hKc => ?_) AllReadyH.nil)
                obtain ⟨v0, v1, v2, v3, v4, v5⟩ := hN.out.later gq
                dsimp only at v0 v1 v2 v3 v4 v5
                simp only [Nat.zero_add] at v1 v2 v3 v4 v5
                have yc' := gq.at yc1
                have zc' := gq.at zc1
                have far : ∀ {q j : Nat} {u : Value}, bm ≠ q → w5.cell? ⟨q, j, none⟩ = some u → ((w5.setCell ⟨bm, 0, none⟩ (.int .i64 K)).setCell ⟨bm, 1, none⟩ (.bool PB)).cell? ⟨q, j, none⟩ = some u := fun h1 h2 => by
                  rw [World.cell?_setCell_far _ _ _ _ h1, World.cell?_setCell_far _ _ _ _ h1]; exact h2
                go_simp
                refine hKc.out _ _ ⟨far (by omega) v0, far (by omega) v1, far (by omega) v2, far (by omega) v3, far (by omega) v4, far (by omega) v5, far (by omega) yc', far (by omega) zc'⟩ (fun hHs => ?_)
                clear hKc Kc hHs far v0 v1 v2 v3 v4 v5 yc' zc'
                refine wpAnyH_done (by kernel_rfl) ?_ _
                have g5 := gq
                clear gq
                obtain ⟨cK, cP⟩ := two_set (u := .int .i64 K) (v := .bool PB) m0 m1
                have gZ : G W1 ((w5.setCell ⟨bm, 0, none⟩ (.int .i64 K)).setCell ⟨bm, 1, none⟩ (.bool PB)) := (g5.setCell (p := ⟨bm, 0, none⟩) hbm _).setCell (p := ⟨bm, 1, none⟩) hbm _
                generalize (w5.setCell ⟨bm, 0, none⟩ (.int .i64 K)).setCell ⟨bm, 1, none⟩ (.bool PB) = W5 at *
                have gW := gW1.trans gZ
                have hsz5 := gZ.size
                have R5 := Lib.hid (hR.out.later gW)
                have A65 := Lib.hid (hA6.out.later gW)
                have A55 := Lib.hid (hA5.out.later gW)
                have C5 := Lib.hid (hCl.out.later gW)
                have gw5 := Lib.hid (gr.trans gW)
                obtain ⟨u0, u1, u2, u3, u4, u5⟩ := (hN.out.later gZ)
                dsimp only at u0 u1 u2 u3 u4 u5
                simp only [Nat.zero_add] at u1 u2 u3 u4 u5
                go_wp2_with (at_builtin; refine wpList_append_own _ rfl _ _ 24 rfl base 43 i0 (.agg #[.int .i64 0, .bool false]) 2 16 Tryd.underlying24 hi hz0 hz1 hz2 rfl (by decide) v M.length (M.flatMap mkE) rfl (R5.out.later (by (repeat' (first | (with_reducible exact G.refl _) | (with_reducible assumption) | (with_reducible refine G.drewN ?_ _) | (with_reducible refine G.drew ?_) | (with_reducible refine G.alloc ?_ _) | (with_reducible refine G.setCell ?_ (by first | (with_reducible exact Nat.le_refl _) | (simp; done) | (simp; omega) | omega) _) | (with_reducible refine G.trans ?_ (by assumption)))))) ⟨W5.heap.size, 0, none⟩ 1 1 [.int .i64 K, .bool PB] rfl rfl (new_add _ _ [.int .i64 K, .bool PB] _ (by simp [go_sem])) (by simp [Value.oneCell']) (by unfold maxLen; omega) (by omega) (by simp [go_sem]; omega) ?_; intro v' w6 hown' hgrow _)
                have RN := Lib.hid (Row.more (enc := mkE) (M := M) (x := (K, PB)) hown')
                have AN := Lib.hid (show Arr w6 b6 (nx K ⟨t, s, al, o, false, sh⟩ F) by rw [HXP.out, if_pos HK0.out]; exact (A65.out).more hgrow (Row.ne R5.out (by omega)))
                have A5N := Lib.hid ((A55.out).more hgrow (Row.ne R5.out (by omega)))
                have CN := Lib.hid ((C5.out).more hgrow (Row.ne R5.out (by omega)))
                have gN : G w w6 := (gw5.out).more hgrow (fun k hk => by have := Row.own R5.out k hk; have := hb5.out; omega)
                have hsN := hgrow.size
                go_roundg (l.length - (i + 1))
                case measure => have := HQ.out; omega
                case rel => exact ⟨i + 1, v', M ++ [(K, PB)], _, rfl, by first | rfl | simp, rfl, by omega, by rw [List.length_append, HM.out]; rfl, HD2, HDF2, RN, AN, A5N, CN, gN, by simp [go_sem] at hsN; omega⟩
            · have b3 : (K == 0) = false := beq_false_of_ne K0
              have b4 : (K != 0) = true := by simp [bne, b3]
              have HK0 := Lib.hid K0
              clear K0
              go_wp2_with fail
              refine (index_any s o _ HPOS.out).mono ?_
              rintro e w4 ⟨rfl, rfl⟩
              rw [← hP.out]
              go_wp2_with fail
              have gW1 : G wr (wr.alloc (.cells #[.int .i64 t, .int .i64 s, .int .i64 al, .int .i64 o, .bool false, .int .i64 sh] 65)) := by (repeat' (first | (with_reducible exact G.refl _) | (with_reducible assumption) | (with_reducible refine G.drewN ?_ _) | (with_reducible refine G.drew ?_) | (with_reducible refine G.alloc ?_ _) | (with_reducible refine G.setCell ?_ (by first | (with_reducible exact Nat.le_refl _) | (simp; done) | (simp; omega) | omega) _) | (with_reducible refine G.trans ?_ (by assumption))))
              have hN : Hid (Nt6 (wr.alloc (.cells #[.int .i64 t, .int .i64 s, .int .i64 al, .int .i64 o, .bool false, .int .i64 sh] 65)) wr.heap.size 0 ⟨t, s, al, o, false, sh⟩) := Lib.hid (six_at (W := wr) rfl (G.refl _))
              have yc1 := gW1.at yc
              have zc1 := gW1.at zc6
              obtain ⟨u0, u1, u2, u3, u4, u5⟩ := hN.out
              dsimp only at u0 u1 u2 u3 u4 u5
              simp only [Nat.zero_add] at u1 u2 u3 u4 u5
              generalize wr.alloc (.cells #[.int .i64 t, .int .i64 s, .int .i64 al, .int .i64 o, .bool false, .int .i64 sh] 65) = W1 at *
              have ltn := cell_lt u0
              have ltg := cell_lt yc1
              have lt61 := cell_lt zc1
              simp only at ltn ltg lt61
              generalize wr.heap.size = bn at *
              refine wp_region_held_drew (S := fun w' => w'.cell? ⟨bn, 0, none⟩ = some (.int .i64 t) ∧ w'.cell? ⟨bn, 1, none⟩ = some (.int .i64 s) ∧ w'.cell? ⟨bn, 2, none⟩ = some (.int .i64 al) ∧ w'.cell? ⟨bn, 3, none⟩ = some (.int .i64 o) ∧ w'.cell? ⟨bn, 4, none⟩ = some (.bool false) ∧ w'.cell? ⟨bn, 5, none⟩ = some (.int .i64 sh) ∧ w'.cell? ⟨g, i, none⟩ = some (.bool false) ∧ w'.cell? ⟨b6, pn, none⟩ = some (.int .i64 FP)) (by kernel_rfl) (by ((try dsimp only); first | (with_reducible assumption) | ((repeat' (with_reducible apply And.intro)) <;> go_simp))) (fun hH0 => ?_)
              refine wpAnyH_take (i := 0) (oi := { dst := some 31, op := Go.Op.load 65 (Go.Operand.tmp 10), type := 65, pos := "accidental.go:81", after := #[], guard := none }) (v := ?_) rfl (by kernel_rfl) (by kernel_rfl) (by kernel_rfl) (fun _ _ _ h => h) (Or.inl ⟨by rfl, ?_⟩) (by assumption) ?_
              rotate_left
              · (intro w hSw; (try dsimp only at hSw); go_simp) <;> (with_reducible rfl)
              simp only [Act.put, List.setIfInBounds_toArray, List.set_cons_zero, List.set_cons_succ]
              refine wpAnyH_take (i := 1) (oi := { dst := some 32, op := Go.Op.move (Go.Operand.tmp 8), type := 76, pos := "accidental.go:81", after := #[], guard := none }) (v := ?_) rfl (by kernel_rfl) (by kernel_rfl) (by kernel_rfl) (fun _ _ _ h => h) (Or.inl ⟨by rfl, ?_⟩) (by assumption) ?_
              rotate_left
              · (intro w hSw; (try dsimp only at hSw); go_simp) <;> (with_reducible rfl)
              simp only [Act.put, List.setIfInBounds_toArray, List.set_cons_zero, List.set_cons_succ]
              refine wpAnyH_take (i := 2) (oi := { dst := some 33, op := Go.Op.move (Go.Operand.tmp 9), type := 3, pos := "accidental.go:81", after := #[], guard := none }) (v := ?_) rfl (by kernel_rfl) (by kernel_rfl) (by kernel_rfl) (fun _ _ _ h => h) (Or.inl ⟨by rfl, ?_⟩) (by assumption) ?_
              rotate_left
              · (intro w hSw; (try dsimp only at hSw); go_simp) <;> (with_reducible rfl)
              simp only [Act.put, List.setIfInBounds_toArray, List.set_cons_zero, List.set_cons_succ]
              refine wpAnyH_take (i := 3) (oi := { dst := some 34, op := Go.Op.indexAddr 76 (Go.Operand.tmp 32) (Go.Operand.tmp 33), type := 0, pos := "accidental.go:81", after := #[{ on := 1, ground := Go.Ground.data }, { on := 2, ground := Go.Ground.data }], guard := none }) (v := ?_) rfl (by kernel_rfl) (by kernel_rfl) (by kernel_rfl) (fun _ _ _ h => h) (Or.inl ⟨by rfl, ?_⟩) (by assumption) ?_
              rotate_left
              · (intro w hSw; (try dsimp only at hSw); go_simp) <;> (with_reducible rfl)
              simp only [Act.put, List.setIfInBounds_toArray, List.set_cons_zero, List.set_cons_succ]
              refine wpAnyH_take (i := 4) (oi := { dst := some 35, op := Go.Op.load 4 (Go.Operand.tmp 34), type := 4, pos := "accidental.go:81", after := #[{ on := 3, ground := Go.Ground.data }], guard := none }) (v := ?_) rfl (by kernel_rfl) (by kernel_rfl) (by kernel_rfl) (fun _ _ _ h => h) (Or.inl ⟨by rfl, ?_⟩) (by assumption) ?_
              rotate_left
              · (intro w hSw; (try dsimp only at hSw); go_simp) <;> (with_reducible rfl)
              simp only [Act.put, List.setIfInBounds_toArray, List.set_cons_zero, List.set_cons_succ]
              refine wpAnyH_take (i := 5) (oi := { dst := some 36, op := Go.Op.move (Go.Operand.tmp 35), type := 4, pos := "accidental.go:81", after := #[{ on := 4, ground := Go.Ground.data }], guard := none }) (v := ?_) rfl (by kernel_rfl) (by kernel_rfl) (by kernel_rfl) (fun _ _ _ h => h) (Or.inl ⟨by rfl, ?_⟩) (by assumption) ?_
              rotate_left
              · (intro w hSw; (try dsimp only at hSw); go_simp) <;> (with_reducible rfl)
              simp only [Act.put, List.setIfInBounds_toArray, List.set_cons_zero, List.set_cons_succ]
              refine wpAnyH_take (i := 6) (oi := { dst := some 37, op := Go.Op.fieldAddr 65 (Go.Operand.tmp 10) 2, type := 0, pos := "accidental.go:81", after := #[{ on := 5, ground := Go.Ground.guard }], guard := some (5, false) }) (v := ?_) rfl (by kernel_rfl) (by kernel_rfl) (by kernel_rfl) (fun _ _ _ h => h) (Or.inl ⟨by rfl, ?_⟩) (by assumption) ?_
              rotate_left
              · (intro w hSw; (try dsimp only at hSw); go_simp) <;> (with_reducible rfl)
              simp only [Act.put, List.setIfInBounds_toArray, List.set_cons_zero, List.set_cons_succ]
              refine wpAnyH_take (i := 7) (oi := { dst := some 38, op := Go.Op.load 4 (Go.Operand.tmp 37), type := 4, pos := "accidental.go:81", after := #[{ on := 6, ground := Go.Ground.data }, { on := 5, ground := Go.Ground.guard }], guard := some (5, false) }) (v := ?_) rfl (by kernel_rfl) (by kernel_rfl) (by kernel_rfl) (fun _ _ _ h => h) (Or.inl ⟨by rfl, ?_⟩) (by assumption) ?_
              rotate_left
              · (intro w hSw; (try dsimp only at hSw); go_simp) <;> (with_reducible rfl)
              simp only [Act.put, List.setIfInBounds_toArray, List.set_cons_zero, List.set_cons_succ]
              refine wpAnyH_take (i := 8) (oi := { dst := some 39, op := Go.Op.unOp Go.UnOp.not 4 (Go.Operand.tmp 38), type := 4, pos := "accidental.go:81", after := #[{ on := 7, ground := Go.Ground.data }, { on := 5, ground := Go.Ground.guard }], guard := some (5, false) }) (v := ?_) rfl (by kernel_rfl) (by kernel_rfl) (by kernel_rfl) (fun _ _ _ h => h) (Or.inl ⟨by rfl, ?_⟩) (by assumption) ?_
              rotate_left
              · (intro w hSw; (try dsimp only at hSw); go_simp) <;> (with_reducible rfl)
              simp only [Act.put, List.setIfInBounds_toArray, List.set_cons_zero, List.set_cons_succ]
              refine wpAnyH_take (i := 9) (oi := { dst := some 40, op := Go.Op.move (Go.Operand.tmp 39), type := 4, pos := "accidental.go:81", after := #[{ on := 8, ground := Go.Ground.data }, { on := 5, ground := Go.Ground.chain }, { on := 5, ground := Go.Ground.guard }], guard := some (5, false) }) (v := ?_) rfl (by kernel_rfl) (by kernel_rfl) (by kernel_rfl) (fun _ _ _ h => h) (Or.inl ⟨by rfl, ?_⟩) (by assumption) ?_
              rotate_left
              · (intro w hSw; (try dsimp only at hSw); go_simp) <;> (with_reducible rfl)
              simp only [Act.put, List.setIfInBounds_toArray, List.set_cons_zero, List.set_cons_succ]
              refine wpAnyH_take (i := 10) (oi := { dst := some 41, op := Go.Op.fieldAddr 65 (Go.Operand.tmp 10) 1, type := 0, pos := "accidental.go:81", after := #[{ on := 9, ground := Go.Ground.guard }], guard := some (9, true) }) (v := ?_) rfl (by kernel_rfl) (by kernel_rfl) (by kernel_rfl) (fun _ _ _ h => h) (Or.inl ⟨by rfl, ?_⟩) (by assumption) ?_
              rotate_left
              · (intro w hSw; (try dsimp only at hSw); go_simp) <;> (with_reducible rfl)
              simp only [Act.put, List.setIfInBounds_toArray, List.set_cons_zero, List.set_cons_succ]
              refine wpAnyH_take (i := 11) (oi := { dst := some 42, op := Go.Op.fieldAddr 52 (Go.Operand.tmp 41) 1, type := 0, pos := "accidental.go:81", after := #[{ on := 10, ground := Go.Ground.data }, { on := 9, ground := Go.Ground.guard }], guard := some (9, true) }) (v := ?_) rfl (by kernel_rfl) (by kernel_rfl) (by kernel_rfl) (fun _ _ _ h => h) (Or.inl ⟨by rfl, ?_⟩) (by assumption) ?_
              rotate_left
              · (intro w hSw; (try dsimp only at hSw); go_simp) <;> (with_reducible rfl)
              simp only [Act.put, List.setIfInBounds_toArray, List.set_cons_zero, List.set_cons_succ]
              refine wpAnyH_take (i := 12) (oi := { dst := some 43, op := Go.Op.load 3 (Go.Operand.tmp 42), type := 3, pos := "accidental.go:81", after := #[{ on := 11, ground := Go.Ground.data }, { on := 9, ground := Go.Ground.guard }], guard := some (9, true) }) (v := ?_) rfl (by kernel_rfl) (by kernel_rfl) (by kernel_rfl) (fun _ _ _ h => h) (Or.inl ⟨by rfl, ?_⟩) (by assumption) ?_
              rotate_left
              · (intro w hSw; (try dsimp only at hSw); go_simp) <;> (with_reducible rfl)
              simp only [Act.put, List.setIfInBounds_toArray, List.set_cons_zero, List.set_cons_succ]
              refine wpAnyH_take (i := 13) (oi := { dst := some 44, op := Go.Op.move (Go.Operand.tmp 11), type := 3, pos := "accidental.go:81", after := #[{ on := 9, ground := Go.Ground.guard }], guard := some (9, true) }) (v := ?_) rfl (by kernel_rfl) (by kernel_rfl) (by kernel_rfl) (fun _ _ _ h => h) (Or.inl ⟨by rfl, ?_⟩) (by assumption) ?_
              rotate_left
              · (intro w hSw; (try dsimp only at hSw); go_simp) <;> (with_reducible rfl)
              simp only [Act.put, List.setIfInBounds_toArray, List.set_cons_zero, List.set_cons_succ]
              refine wpAnyH_take (i := 14) (oi := { dst := some 45, op := Go.Op.indexAddr 58 (Go.Operand.tmp 6) (Go.Operand.tmp 44), type := 0, pos := "accidental.go:81", after := #[{ on := 13, ground := Go.Ground.data }, { on := 9, ground := Go.Ground.guard }], guard := some (9, true) }) (v := ?_) rfl (by kernel_rfl) (by kernel_rfl) (by kernel_rfl) (fun _ _ _ h => h) (Or.inl ⟨by rfl, ?_⟩) (by assumption) ?_
              rotate_left
              · (intro w hSw; (try dsimp only at hSw); go_simp) <;> (with_reducible rfl)
              simp only [Act.put, List.setIfInBounds_toArray, List.set_cons_zero, List.set_cons_succ]
              refine wpAnyH_take (i := 15) (oi := { dst := some 46, op := Go.Op.load 3 (Go.Operand.tmp 45), type := 3, pos := "accidental.go:81", after := #[{ on := 14, ground := Go.Ground.data }, { on := 9, ground := Go.Ground.guard }], guard := some (9, true) }) (v := ?_) rfl (by kernel_rfl) (by kernel_rfl) (by kernel_rfl) (fun _ _ _ h => h) (Or.inl ⟨by rfl, ?_⟩) (by assumption) ?_
              rotate_left
              · (intro w hSw; (try dsimp only at hSw); go_simp) <;> (with_reducible rfl)
              simp only [Act.put, List.setIfInBounds_toArray, List.set_cons_zero, List.set_cons_succ]
              refine wpAnyH_take (i := 16) (oi := { dst := some 47, op := Go.Op.binOp Go.BinOp.neq 3 (Go.Operand.tmp 43) (Go.Operand.tmp 46) 3, type := 4, pos := "accidental.go:81", after := #[{ on := 12, ground := Go.Ground.data }, { on := 15, ground := Go.Ground.data }, { on := 9, ground := Go.Ground.guard }], guard := some (9, true) }) (v := ?_) rfl (by kernel_rfl) (by kernel_rfl) (by kernel_rfl) (fun _ _ _ h => h) (Or.inl ⟨by rfl, ?_⟩) (by assumption) ?_
              rotate_left
              · (intro w hSw; (try dsimp only at hSw); go_simp) <;> (with_reducible rfl)
              simp only [Act.put, List.setIfInBounds_toArray, List.set_cons_zero, List.set_cons_succ]
              refine wpAnyH_take (i := 17) (oi := { dst := some 48, op := Go.Op.pick (Go.Operand.tmp 40) (Go.Operand.tmp 47) (Go.Operand.const (Go.Value.bool false)), type := 4, pos := "accidental.go:81", after := #[{ on := 9, ground := Go.Ground.data }, { on := 16, ground := Go.Ground.data }, { on := 5, ground := Go.Ground.guard }], guard := some (5, false) }) (v := ?_) rfl (by kernel_rfl) (by kernel_rfl) (by kernel_rfl) (fun _ _ _ h => h) (Or.inl ⟨by rfl, ?_⟩) (by assumption) ?_
              rotate_left
              · (intro w hSw; (try dsimp only at hSw); go_simp) <;> (with_reducible rfl)
              simp only [Act.put, List.setIfInBounds_toArray, List.set_cons_zero, List.set_cons_succ]
              refine wpAnyH_take (i := 18) (oi := { dst := some 49, op := Go.Op.pick (Go.Operand.tmp 36) (Go.Operand.const (Go.Value.bool true)) (Go.Operand.tmp 48), type := 4, pos := "accidental.go:81", after := #[{ on := 5, ground := Go.Ground.data }, { on := 17, ground := Go.Ground.data }], guard := none }) (v := ?_) rfl (by kernel_rfl) (by kernel_rfl) (by kernel_rfl) (fun _ _ _ h => h) (Or.inl ⟨by rfl, ?_⟩) (by assumption) ?_
              rotate_left
              · (intro w hSw; (try dsimp only at hSw); go_simp) <;> (with_reducible rfl)
              simp only [Act.put, List.setIfInBounds_toArray, List.set_cons_zero, List.set_cons_succ]
              refine wpAnyH_ready (rs := [19, 20]) (by kernel_rfl) (by simp) ?_
              refine (AllReadyH.cons (o := { dst := some 50, op := Go.Op.call { callee := Go.Callee.value (Go.Operand.func 38), args := #[Go.Operand.tmp 31, Go.Operand.tmp 49], argTypes := #[65, 4] }, type := 43, pos := "accidental.go:81", after := #[{ on := 0, ground := Go.Ground.data }, { on := 18, ground := Go.Ground.data }, { on := 9, ground := Go.Ground.chain }], guard := none }) rfl (fun Kc hKc => ?_) (AllReadyH.cons (o := { dst := some 12, op := Go.Op.alloc 43, type := 0, pos := "accidental.go:81", after := #[], guard := none }) rfl (fun Kc hKc => ?_) AllReadyH.nil))
              · go_simp
                go_at_call 38
                refine (mark_any _ _ _ _ _ _ _ _ HAL.out).mono ?_
                rintro e w4 ⟨rfl, hG4⟩
                rw [HK.out, HPB.out]
                have gq : G W1 w4 := G.trans (by (repeat' (first | (with_reducible exact G.refl _) | (with_reducible refine G.drewN ?_ _) | (with_reducible refine G.drew ?_) | (with_reducible refine G.alloc ?_ _)))) hG4
                obtain ⟨v0, v1, v2, v3, v4, v5⟩ := hN.out.later gq
                dsimp only at v0 v1 v2 v3 v4 v5
                simp only [Nat.zero_add] at v1 v2 v3 v4 v5
                have yc' := gq.at yc1
                have zc' := gq.at zc1
                refine hKc.out _ _ (by ((try dsimp only); first | (with_reducible assumption) | ((repeat' (with_reducible apply And.intro)) <;> go_simp))) (fun hH1 => ?_)
                clear hKc Kc hH0
                clear v0 v1 v2 v3 v4 v5 yc' zc'
                have g4 := gq
                clear gq hG4
                refine wpAnyH_ready (rs := [20]) (by kernel_rfl) (by simp) ?_
                refine (AllReadyH.cons (o := { dst := some 12, op := Go.Op.alloc 43, type := 0, pos := "accidental.go:81", after := #[], guard := none }) rfl (fun Kc hKc => ?_) AllReadyH.nil)
                go_simp
                have gq : G W1 (w4.alloc (.cells #[.int .i64 0, .bool false] 43)) := g4.alloc _
                obtain ⟨⟨m0, m1⟩, m2, m3⟩ := two_fr (w1 := w4.alloc (.cells #[.int .i64 0, .bool false] 43)) rfl (G.refl _)
                have hbm : W1.heap.size ≤ w4.heap.size := g4.size
                obtain ⟨v0, v1, v2, v3, v4, v5⟩ := hN.out.later gq
                dsimp only at v0 v1 v2 v3 v4 v5
                simp only [Nat.zero_add] at v1 v2 v3 v4 v5
                have yc' := gq.at yc1
                have zc' := gq.at zc1
                refine hKc.out _ _ (by ((try dsimp only); first | (with_reducible assumption) | ((repeat' (with_reducible apply And.intro)) <;> go_simp))) (fun hH2 => ?_)
                clear hKc Kc hH1
                clear v0 v1 v2 v3 v4 v5 yc' zc'
                generalize w4.heap.size = bm at *
                generalize w4.alloc (.cells #[.int .i64 0, .bool false] 43) = w5 at *
                clear g4
                refine wpAnyH_ready (rs := [21]) (by kernel_rfl) (by simp) ?_
                refine (AllReadyH.cons (o := { dst := none, op := Go.Op.store 43 (Go.Operand.tmp 12) (Go.Operand.tmp 50), type := 0, pos := "accidental.go:81", after := #[{ on := 20, ground := Go.Ground.data }, { on := 19, ground := Go.Ground.data }, { on := 19, ground := Go.Ground.chain }, { on := 0, ground := Go.Ground.phase }, { on := 1, ground := Go.Ground.phase }, { on := 2, ground := Go.Ground.phase }, { on := 3, ground := Go.Ground.phase }, { on := 4, ground := Go.Ground.phase }, { on := 5, ground := Go.Ground.phase }, { on := 6, ground := Go.Ground.phase }, { on := 7, ground := Go.Ground.phase }, { on := 8, ground := Go.Ground.phase }, { on := 9, ground := Go.Ground.phase }, { on := 10, ground := Go.Ground.phase }, { on := 11, ground := Go.Ground.phase }, { on := 12, ground := Go.Ground.phase }, { on := 13, ground := Go.Ground.phase }, { on := 14, ground := Go.Ground.phase }, { on := 15, ground := Go.Ground.phase }, { on := 16, ground := Go.Ground.phase }, { on := 17, ground := Go.Ground.phase }, { on := 18, ground := Go.Ground.phase }, { on := 19, ground := Go.Ground.phase }, { on := 20, ground := Go.Ground.phase }], guard := none }) rfl (fun Kc hKc => ?_) AllReadyH.nil)
                obtain ⟨v0, v1, v2, v3, v4, v5⟩ := hN.out.later gq
                dsimp only at v0 v1 v2 v3 v4 v5
                simp only [Nat.zero_add] at v1 v2 v3 v4 v5
                have yc' := gq.at yc1
                have zc' := gq.at zc1
                have far : ∀ {q j : Nat} {u : Value}, bm ≠ q → w5.cell? ⟨q, j, none⟩ = some u → ((w5.setCell ⟨bm, 0, none⟩ (.int .i64 K)).setCell ⟨bm, 1, none⟩ (.bool PB)).cell? ⟨q, j, none⟩ = some u := fun h1 h2 => by
                  rw [World.cell?_setCell_far _ _ _ _ h1, World.cell?_setCell_far _ _ _ _ h1]; exact h2
                go_simp
                refine hKc.out _ _ ⟨far (by omega) v0, far (by omega) v1, far (by omega) v2, far (by omega) v3, far (by omega) v4, far (by omega) v5, far (by omega) yc', far (by omega) zc'⟩ (fun hHs => ?_)
                clear hKc Kc hHs far v0 v1 v2 v3 v4 v5 yc' zc'
                refine wpAnyH_done (by kernel_rfl) ?_ _
                have g5 := gq
                clear gq
                obtain ⟨cK, cP⟩ := two_set (u := .int .i64 K) (v := .bool PB) m0 m1
                have gZ : G W1 ((w5.setCell ⟨bm, 0, none⟩ (.int .i64 K)).setCell ⟨bm, 1, none⟩ (.bool PB)) := (g5.setCell (p := ⟨bm, 0, none⟩) hbm _).setCell (p := ⟨bm, 1, none⟩) hbm _
                generalize (w5.setCell ⟨bm, 0, none⟩ (.int .i64 K)).setCell ⟨bm, 1, none⟩ (.bool PB) = W5 at *
                have gW := gW1.trans gZ
                have hsz5 := gZ.size
                have R5 := Lib.hid (hR.out.later gW)
                have A65 := Lib.hid (hA6.out.later gW)
                have A55 := Lib.hid (hA5.out.later gW)
                have C5 := Lib.hid (hCl.out.later gW)
                have gw5 := Lib.hid (gr.trans gW)
                obtain ⟨u0, u1, u2, u3, u4, u5⟩ := (hN.out.later gZ)
                dsimp only at u0 u1 u2 u3 u4 u5
                simp only [Nat.zero_add] at u1 u2 u3 u4 u5
                obtain ⟨s6, f6⟩ := A65.out pn p2
                rw [← HPN.out] at s6
                have A66 := Lib.hid (A65.out.set p0 p1 al)
                rw [hpn2] at A66
                have R6 := Lib.hid (R5.out.far (b := b6) (by omega) pn (.int .i64 al))
                have C6 := Lib.hid (show Cls (W5.setCell ⟨b6, pn, none⟩ (.int .i64 al)) g l.length h by
                  intro j hj
                  refine ⟨?_, by simp [go_sem]; exact (C5.out j hj).2⟩
                  rw [World.cell?_setCell_far _ _ _ _ (show b6 ≠ g by omega)]; exact (C5.out j hj).1)
                have A56 := Lib.hid (show Arr (W5.setCell ⟨b6, pn, none⟩ (.int .i64 al)) b5 (fun _ => 0) by
                  intro j hj
                  refine ⟨?_, by simp [go_sem]; exact (A55.out j hj).2⟩
                  rw [World.cell?_setCell_far _ _ _ _ (show b6 ≠ b5 by omega)]; exact (A55.out j hj).1)
                have gw6 := Lib.hid (gw5.out.setCell (p := ⟨b6, pn, none⟩) (by have := hb5.out; show w.heap.size ≤ b6; omega) (.int .i64 al))
                have cK6 : (W5.setCell ⟨b6, pn, none⟩ (.int .i64 al)).cell? ⟨bm, 0, none⟩ = some (.int .i64 K) := by rw [World.cell?_setCell_far _ _ _ _ (show b6 ≠ bm by omega)]; exact cK
                have cP6 : (W5.setCell ⟨b6, pn, none⟩ (.int .i64 al)).cell? ⟨bm, 1, none⟩ = some (.bool PB) := by rw [World.cell?_setCell_far _ _ _ _ (show b6 ≠ bm by omega)]; exact cP
                go_wp2_with (at_builtin; refine wpList_append_own _ rfl _ _ 24 rfl base 43 i0 (.agg #[.int .i64 0, .bool false]) 2 16 Tryd.underlying24 hi hz0 hz1 hz2 rfl (by decide) v M.length (M.flatMap mkE) rfl (R6.out.later (by (repeat' (first | (with_reducible exact G.refl _) | (with_reducible assumption) | (with_reducible refine G.drewN ?_ _) | (with_reducible refine G.drew ?_) | (with_reducible refine G.alloc ?_ _) | (with_reducible refine G.setCell ?_ (by first | (with_reducible exact Nat.le_refl _) | (simp; done) | (simp; omega) | omega) _) | (with_reducible refine G.trans ?_ (by assumption)))))) ⟨W5.heap.size, 0, none⟩ 1 1 [.int .i64 K, .bool PB] rfl rfl (new_add _ _ [.int .i64 K, .bool PB] _ (by simp [go_sem])) (by simp [Value.oneCell']) (by unfold maxLen; omega) (by omega) (by simp [go_sem]; omega) ?_; intro v' w6 hown' hgrow _)
                have RN := Lib.hid (Row.more (enc := mkE) (M := M) (x := (K, PB)) hown')
                have AN := Lib.hid (show Arr w6 b6 (nx K ⟨t, s, al, o, false, sh⟩ F) by rw [HXP.out, if_neg HK0.out]; exact (A66.out).more hgrow (Row.ne R6.out (by omega)))
                have A5N := Lib.hid ((A56.out).more hgrow (Row.ne R6.out (by omega)))
                have CN := Lib.hid ((C6.out).more hgrow (Row.ne R6.out (by omega)))
                have gN : G w w6 := (gw6.out).more hgrow (fun k hk => by have := Row.own R6.out k hk; have := hb5.out; omega)
                have hsN := hgrow.size
                go_roundg (l.length - (i + 1))
                case measure => have := HQ.out; omega
                case rel => exact ⟨i + 1, v', M ++ [(K, PB)], _, rfl, by first | rfl | simp, rfl, by omega, by rw [List.length_append, HM.out]; rfl, HD2, HDF2, RN, AN, A5N, CN, gN, by simp [go_sem] at hsN; omega⟩
              · go_simp
                have gq : G W1 (W1.drew.alloc (.cells #[.int .i64 0, .bool false] 43)) := by (repeat' (first | (with_reducible exact G.refl _) | (with_reducible refine G.drewN ?_ _) | (with_reducible refine G.drew ?_) | (with_reducible refine G.alloc ?_ _)))
                obtain ⟨v0, v1, v2, v3, v4, v5⟩ := hN.out.later gq
                dsimp only at v0 v1 v2 v3 v4 v5
                simp only [Nat.zero_add] at v1 v2 v3 v4 v5
                have yc' := gq.at yc1
                have zc' := gq.at zc1
                refine hKc.out _ _ (by ((try dsimp only); first | (with_reducible assumption) | ((repeat' (with_reducible apply And.intro)) <;> go_simp))) (fun hH4 => ?_)
                clear hKc Kc hH0
                clear v0 v1 v2 v3 v4 v5 yc' zc'
                have g4 := gq
                clear gq
                refine wpAnyH_ready (rs := [19]) (by kernel_rfl) (by simp) ?_
                refine (AllReadyH.cons (o := { dst := some 50, op := Go.Op.call { callee := Go.Callee.value (Go.Operand.func 38), args := #[Go.Operand.tmp 31, Go.Operand.tmp 49], argTypes := #[65, 4] }, type := 43, pos := "accidental.go:81", after := #[{ on := 0, ground := Go.Ground.data }, { on := 18, ground := Go.Ground.data }, { on := 9, ground := Go.Ground.chain }], guard := none }) rfl (fun Kc hKc => ?_) AllReadyH.nil)
                go_simp
                go_at_call 38
                refine (mark_any _ _ _ _ _ _ _ _ HAL.out).mono ?_
                rintro e w5 ⟨rfl, hG5⟩
                rw [HK.out, HPB.out]
                have gq : G W1 w5 := G.trans (by (repeat' (first | (with_reducible exact G.refl _) | (with_reducible refine G.drewN ?_ _) | (with_reducible refine G.drew ?_) | (with_reducible refine G.alloc ?_ _)))) hG5
                have hG6 : G (W1.alloc (.cells #[.int .i64 0, .bool false] 43)) w5 := G.trans (G.drew (G.refl _)) hG5
                obtain ⟨⟨m0, m1⟩, m2, m3⟩ := two_fr rfl hG6
                obtain ⟨bm, hbmv⟩ : ∃ z : Nat, W1.heap.size = z := ⟨_, rfl⟩
                have hbm : W1.heap.size ≤ bm := by omega
                rw [hbmv] at m0 m1 m2 m3
                try rw [hbmv]
                obtain ⟨v0, v1, v2, v3, v4, v5⟩ := hN.out.later gq
                dsimp only at v0 v1 v2 v3 v4 v5
                simp only [Nat.zero_add] at v1 v2 v3 v4 v5
                have yc' := gq.at yc1
                have zc' := gq.at zc1
                refine hKc.out _ _ (by ((try dsimp only); first | (with_reducible assumption) | ((repeat' (with_reducible apply And.intro)) <;> go_simp))) (fun hH5 => ?_)
                clear hKc Kc hH4
                clear v0 v1 v2 v3 v4 v5 yc' zc'
                clear hG5 hG6 g4
                refine wpAnyH_ready (rs := [21]) (by kernel_rfl) (by simp) ?_
                refine (AllReadyH.cons (o := { dst := none, op := Go.Op.store 43 (Go.Operand.tmp 12) (Go.Operand.tmp 50), type := 0, pos := "accidental.go:81", after := #[{ on := 20, ground := Go.Ground.data }, { on := 19, ground := Go.Ground.data }, { on := 19, ground := Go.Ground.chain }, { on := 0, ground := Go.Ground.phase }, { on := 1, ground := Go.Ground.phase }, { on := 2, ground := Go.Ground.phase }, { on := 3, ground := Go.Ground.phase }, { on := 4, ground := Go.Ground.phase }, { on := 5, ground := Go.Ground.phase }, { on := 6, ground := Go.Ground.phase }, { on := 7, ground := Go.Ground.phase }, { on := 8, ground := Go.Ground.phase }, { on := 9, ground := Go.Ground.phase }, { on := 10, ground := Go.Ground.phase }, { on := 11, ground := Go.Ground.phase }, { on := 12, ground := Go.Ground.phase }, { on := 13, ground := Go.Ground.phase }, { on := 14, ground := Go.Ground.phase }, { on := 15, ground := Go.Ground.phase }, { on := 16, ground := Go.Ground.phase }, { on := 17, ground := Go.Ground.phase }, { on := 18, ground := Go.Ground.phase }, { on := 19, ground := Go.Ground.phase }, { on := 20, ground := Go.Ground.phase }], guard := none }) rfl (fun Kc hKc => ?_) AllReadyH.nil)
                obtain ⟨v0, v1, v2, v3, v4, v5⟩ := hN.out.later gq
                dsimp only at v0 v1 v2 v3 v4 v5
                simp only [Nat.zero_add] at v1 v2 v3 v4 v5
                have yc' := gq.at yc1
                have zc' := gq.at zc1
                have far : ∀ {q j : Nat} {u : Value}, bm ≠ q → w5.cell? ⟨q, j, none⟩ = some u → ((w5.setCell ⟨bm, 0, none⟩ (.int .i64 K)).setCell ⟨bm, 1, none⟩ (.bool PB)).cell? ⟨q, j, none⟩ = some u := fun h1 h2 => by
                  rw [World.cell?_setCell_far _ _ _ _ h1, World.cell?_setCell_far _ _ _ _ h1]; exact h2
                go_simp
                refine hKc.out _ _ ⟨far (by omega) v0, far (by omega) v1, far (by omega) v2, far (by omega) v3, far (by omega) v4, far (by omega) v5, far (by omega) yc', far (by omega) zc'⟩ (fun hHs => ?_)
                clear hKc Kc hHs far v0 v1 v2 v3 v4 v5 yc' zc'
                refine wpAnyH_done (by kernel_rfl) ?_ _
                have g5 := gq
                clear gq
                obtain ⟨cK, cP⟩ := two_set (u := .int .i64 K) (v := .bool PB) m0 m1
                have gZ : G W1 ((w5.setCell ⟨bm, 0, none⟩ (.int .i64 K)).setCell ⟨bm, 1, none⟩ (.bool PB)) := (g5.setCell (p := ⟨bm, 0, none⟩) hbm _).setCell (p := ⟨bm, 1, none⟩) hbm _
                generalize (w5.setCell ⟨bm, 0, none⟩ (.int .i64 K)).setCell ⟨bm, 1, none⟩ (.bool PB) = W5 at *
                have gW := gW1.trans gZ
                have hsz5 := gZ.size
                have R5 := Lib.hid (hR.out.later gW)
                have A65 := Lib.hid (hA6.out.later gW)
                have A55 := Lib.hid (hA5.out.later gW)
                have C5 := Lib.hid (hCl.out.later gW)
                have gw5 := Lib.hid (gr.trans gW)
                obtain ⟨u0, u1, u2, u3, u4, u5⟩ := (hN.out.later gZ)
                dsimp only at u0 u1 u2 u3 u4 u5
                simp only [Nat.zero_add] at u1 u2 u3 u4 u5
                obtain ⟨s6, f6⟩ := A65.out pn p2
                rw [← HPN.out] at s6
                have A66 := Lib.hid (A65.out.set p0 p1 al)
                rw [hpn2] at A66
                have R6 := Lib.hid (R5.out.far (b := b6) (by omega) pn (.int .i64 al))
                have C6 := Lib.hid (show Cls (W5.setCell ⟨b6, pn, none⟩ (.int .i64 al)) g l.length h by
                  intro j hj
                  refine ⟨?_, by simp [go_sem]; exact (C5.out j hj).2⟩
                  rw [World.cell?_setCell_far _ _ _ _ (show b6 ≠ g by omega)]; exact (C5.out j hj).1)
                have A56 := Lib.hid (show Arr (W5.setCell ⟨b6, pn, none⟩ (.int .i64 al)) b5 (fun _ => 0) by
                  intro j hj
                  refine ⟨?_, by simp [go_sem]; exact (A55.out j hj).2⟩
                  rw [World.cell?_setCell_far _ _ _ _ (show b6 ≠ b5 by omega)]; exact (A55.out j hj).1)
                have gw6 := Lib.hid (gw5.out.setCell (p := ⟨b6, pn, none⟩) (by have := hb5.out; show w.heap.size ≤ b6; omega) (.int .i64 al))
                have cK6 : (W5.setCell ⟨b6, pn, none⟩ (.int .i64 al)).cell? ⟨bm, 0, none⟩ = some (.int .i64 K) := by rw [World.cell?_setCell_far _ _ _ _ (show b6 ≠ bm by omega)]; exact cK
                have cP6 : (W5.setCell ⟨b6, pn, none⟩ (.int .i64 al)).cell? ⟨bm, 1, none⟩ = some (.bool PB) := by rw [World.cell?_setCell_far _ _ _ _ (show b6 ≠ bm by omega)]; exact cP
                go_wp2_with (at_builtin; refine wpList_append_own _ rfl _ _ 24 rfl base 43 i0 (.agg #[.int .i64 0, .bool false]) 2 16 Tryd.underlying24 hi hz0 hz1 hz2 rfl (by decide) v M.length (M.flatMap mkE) rfl (R6.out.later (by (repeat' (first | (with_reducible exact G.refl _) | (with_reducible assumption) | (with_reducible refine G.drewN ?_ _) | (with_reducible refine G.drew ?_) | (with_reducible refine G.alloc ?_ _) | (with_reducible refine G.setCell ?_ (by first | (with_reducible exact Nat.le_refl _) | (simp; done) | (simp; omega) | omega) _) | (with_reducible refine G.trans ?_ (by assumption)))))) ⟨W5.heap.size, 0, none⟩ 1 1 [.int .i64 K, .bool PB] rfl rfl (new_add _ _ [.int .i64 K, .bool PB] _ (by simp [go_sem])) (by simp [Value.oneCell']) (by unfold maxLen; omega) (by omega) (by simp [go_sem]; omega) ?_; intro v' w6 hown' hgrow _)
                have RN := Lib.hid (Row.more (enc := mkE) (M := M) (x := (K, PB)) hown')
                have AN := Lib.hid (show Arr w6 b6 (nx K ⟨t, s, al, o, false, sh⟩ F) by rw [HXP.out, if_neg HK0.out]; exact (A66.out).more hgrow (Row.ne R6.out (by omega)))
                have A5N := Lib.hid ((A56.out).more hgrow (Row.ne R6.out (by omega)))
                have CN := Lib.hid ((C6.out).more hgrow (Row.ne R6.out (by omega)))
                have gN : G w w6 := (gw6.out).more hgrow (fun k hk => by have := Row.own R6.out k hk; have := hb5.out; omega)
                have hsN := hgrow.size
                go_roundg (l.length - (i + 1))
                case measure => have := HQ.out; omega
                case rel => exact ⟨i + 1, v', M ++ [(K, PB)], _, rfl, by first | rfl | simp, rfl, by omega, by rw [List.length_append, HM.out]; rfl, HD2, HDF2, RN, AN, A5N, CN, gN, by simp [go_sem] at hsN; omega⟩
          · have ke : (al == FP) = false := beq_false_of_ne he
            have ke2 : (al != FP) = true := by simp [bne, ke]
            obtain rfl : D = true := by rw [HDC.out]; simp [he]
            clear HDC he
            have HK := Lib.hid hK.out.symm
            have HPB := Lib.hid hPB.out.symm
            have K0 : ¬ K = 0 := fun e => by
              have := (mK_z HAL.out).1 (hK.out.symm.trans e)
              cases this.1
            have b3 : (K == 0) = false := beq_false_of_ne K0
            have b4 : (K != 0) = true := by simp [bne, b3]
            have HK0 := Lib.hid K0
            clear K0
            go_wp2_with fail
            refine (index_any s o _ HPOS.out).mono ?_
            rintro e w4 ⟨rfl, rfl⟩
            rw [← hP.out]
            go_wp2_with fail
            have gW1 : G wr (wr.alloc (.cells #[.int .i64 t, .int .i64 s, .int .i64 al, .int .i64 o, .bool false, .int .i64 sh] 65)) := by (repeat' (first | (with_reducible exact G.refl _) | (with_reducible assumption) | (with_reducible refine G.drewN ?_ _) | (with_reducible refine G.drew ?_) | (with_reducible refine G.alloc ?_ _) | (with_reducible refine G.setCell ?_ (by first | (with_reducible exact Nat.le_refl _) | (simp; done) | (simp; omega) | omega) _) | (with_reducible refine G.trans ?_ (by assumption))))
            have hN : Hid (Nt6 (wr.alloc (.cells #[.int .i64 t, .int .i64 s, .int .i64 al, .int .i64 o, .bool false, .int .i64 sh] 65)) wr.heap.size 0 ⟨t, s, al, o, false, sh⟩) := Lib.hid (six_at (W := wr) rfl (G.refl _))
            have yc1 := gW1.at yc
            have zc1 := gW1.at zc6
            obtain ⟨u0, u1, u2, u3, u4, u5⟩ := hN.out
            dsimp only at u0 u1 u2 u3 u4 u5
            simp only [Nat.zero_add] at u1 u2 u3 u4 u5
            generalize wr.alloc (.cells #[.int .i64 t, .int .i64 s, .int .i64 al, .int .i64 o, .bool false, .int .i64 sh] 65) = W1 at *
            have ltn := cell_lt u0
            have ltg := cell_lt yc1
            have lt61 := cell_lt zc1
            simp only at ltn ltg lt61
            generalize wr.heap.size = bn at *
            refine wp_region_held_drew (S := fun w' => w'.cell? ⟨bn, 0, none⟩ = some (.int .i64 t) ∧ w'.cell? ⟨bn, 1, none⟩ = some (.int .i64 s) ∧ w'.cell? ⟨bn, 2, none⟩ = some (.int .i64 al) ∧ w'.cell? ⟨bn, 3, none⟩ = some (.int .i64 o) ∧ w'.cell? ⟨bn, 4, none⟩ = some (.bool false) ∧ w'.cell? ⟨bn, 5, none⟩ = some (.int .i64 sh) ∧ w'.cell? ⟨g, i, none⟩ = some (.bool false) ∧ w'.cell? ⟨b6, pn, none⟩ = some (.int .i64 FP)) (by kernel_rfl) (by ((try dsimp only); first | (with_reducible assumption) | ((repeat' (with_reducible apply And.intro)) <;> go_simp))) (fun hH0 => ?_)
            refine wpAnyH_take (i := 0) (oi := { dst := some 31, op := Go.Op.load 65 (Go.Operand.tmp 10), type := 65, pos := "accidental.go:81", after := #[], guard := none }) (v := ?_) rfl (by kernel_rfl) (by kernel_rfl) (by kernel_rfl) (fun _ _ _ h => h) (Or.inl ⟨by rfl, ?_⟩) (by assumption) ?_
            rotate_left
            · (intro w hSw; (try dsimp only at hSw); go_simp) <;> (with_reducible rfl)
            simp only [Act.put, List.setIfInBounds_toArray, List.set_cons_zero, List.set_cons_succ]
            refine wpAnyH_take (i := 1) (oi := { dst := some 32, op := Go.Op.move (Go.Operand.tmp 8), type := 76, pos := "accidental.go:81", after := #[], guard := none }) (v := ?_) rfl (by kernel_rfl) (by kernel_rfl) (by kernel_rfl) (fun _ _ _ h => h) (Or.inl ⟨by rfl, ?_⟩) (by assumption) ?_
            rotate_left
            · (intro w hSw; (try dsimp only at hSw); go_simp) <;> (with_reducible rfl)
            simp only [Act.put, List.setIfInBounds_toArray, List.set_cons_zero, List.set_cons_succ]
            refine wpAnyH_take (i := 2) (oi := { dst := some 33, op := Go.Op.move (Go.Operand.tmp 9), type := 3, pos := "accidental.go:81", after := #[], guard := none }) (v := ?_) rfl (by kernel_rfl) (by kernel_rfl) (by kernel_rfl) (fun _ _ _ h => h) (Or.inl ⟨by rfl, ?_⟩) (by assumption) ?_
            rotate_left
            · (intro w hSw; (try dsimp only at hSw); go_simp) <;> (with_reducible rfl)
            simp only [Act.put, List.setIfInBounds_toArray, List.set_cons_zero, List.set_cons_succ]
            refine wpAnyH_take (i := 3) (oi := { dst := some 34, op := Go.Op.indexAddr 76 (Go.Operand.tmp 32) (Go.Operand.tmp 33), type := 0, pos := "accidental.go:81", after := #[{ on := 1, ground := Go.Ground.data }, { on := 2, ground := Go.Ground.data }], guard := none }) (v := ?_) rfl (by kernel_rfl) (by kernel_rfl) (by kernel_rfl) (fun _ _ _ h => h) (Or.inl ⟨by rfl, ?_⟩) (by assumption) ?_
            rotate_left
            · (intro w hSw; (try dsimp only at hSw); go_simp) <;> (with_reducible rfl)
            simp only [Act.put, List.setIfInBounds_toArray, List.set_cons_zero, List.set_cons_succ]
            refine wpAnyH_take (i := 4) (oi := { dst := some 35, op := Go.Op.load 4 (Go.Operand.tmp 34), type := 4, pos := "accidental.go:81", after := #[{ on := 3, ground := Go.Ground.data }], guard := none }) (v := ?_) rfl (by kernel_rfl) (by kernel_rfl) (by kernel_rfl) (fun _ _ _ h => h) (Or.inl ⟨by rfl, ?_⟩) (by assumption) ?_
            rotate_left
            · (intro w hSw; (try dsimp only at hSw); go_simp) <;> (with_reducible rfl)
            simp only [Act.put, List.setIfInBounds_toArray, List.set_cons_zero, List.set_cons_succ]
            refine wpAnyH_take (i := 5) (oi := { dst := some 36, op := Go.Op.move (Go.Operand.tmp 35), type := 4, pos := "accidental.go:81", after := #[{ on := 4, ground := Go.Ground.data }], guard := none }) (v := ?_) rfl (by kernel_rfl) (by kernel_rfl) (by kernel_rfl) (fun _ _ _ h => h) (Or.inl ⟨by rfl, ?_⟩) (by assumption) ?_
            rotate_left
            · (intro w hSw; (try dsimp only at hSw); go_simp) <;> (with_reducible rfl)
            simp only [Act.put, List.setIfInBounds_toArray, List.set_cons_zero, List.set_cons_succ]
            refine wpAnyH_take (i := 6) (oi := { dst := some 37, op := Go.Op.fieldAddr 65 (Go.Operand.tmp 10) 2, type := 0, pos := "accidental.go:81", after := #[{ on := 5, ground := Go.Ground.guard }], guard := some (5, false) }) (v := ?_) rfl (by kernel_rfl) (by kernel_rfl) (by kernel_rfl) (fun _ _ _ h => h) (Or.inl ⟨by rfl, ?_⟩) (by assumption) ?_
            rotate_left
            · (intro w hSw; (try dsimp only at hSw); go_simp) <;> (with_reducible rfl)
            simp only [Act.put, List.setIfInBounds_toArray, List.set_cons_zero, List.set_cons_succ]
            refine wpAnyH_take (i := 7) (oi := { dst := some 38, op := Go.Op.load 4 (Go.Operand.tmp 37), type := 4, pos := "accidental.go:81", after := #[{ on := 6, ground := Go.Ground.data }, { on := 5, ground := Go.Ground.guard }], guard := some (5, false) }) (v := ?_) rfl (by kernel_rfl) (by kernel_rfl) (by kernel_rfl) (fun _ _ _ h => h) (Or.inl ⟨by rfl, ?_⟩) (by assumption) ?_
            rotate_left
            · (intro w hSw; (try dsimp only at hSw); go_simp) <;> (with_reducible rfl)
            simp only [Act.put, List.setIfInBounds_toArray, List.set_cons_zero, List.set_cons_succ]
            refine wpAnyH_take (i := 8) (oi := { dst := some 39, op := Go.Op.unOp Go.UnOp.not 4 (Go.Operand.tmp 38), type := 4, pos := "accidental.go:81", after := #[{ on := 7, ground := Go.Ground.data }, { on := 5, ground := Go.Ground.guard }], guard := some (5, false) }) (v := ?_) rfl (by kernel_rfl) (by kernel_rfl) (by kernel_rfl) (fun _ _ _ h => h) (Or.inl ⟨by rfl, ?_⟩) (by assumption) ?_
            rotate_left
            · (intro w hSw; (try dsimp only at hSw); go_simp) <;> (with_reducible rfl)
            simp only [Act.put, List.setIfInBounds_toArray, List.set_cons_zero, List.set_cons_succ]
            refine wpAnyH_take (i := 9) (oi := { dst := some 40, op := Go.Op.move (Go.Operand.tmp 39), type := 4, pos := "accidental.go:81", after := #[{ on := 8, ground := Go.Ground.data }, { on := 5, ground := Go.Ground.chain }, { on := 5, ground := Go.Ground.guard }], guard := some (5, false) }) (v := ?_) rfl (by kernel_rfl) (by kernel_rfl) (by kernel_rfl) (fun _ _ _ h => h) (Or.inl ⟨by rfl, ?_⟩) (by assumption) ?_
            rotate_left
            · (intro w hSw; (try dsimp only at hSw); go_simp) <;> (with_reducible rfl)
            simp only [Act.put, List.setIfInBounds_toArray, List.set_cons_zero, List.set_cons_succ]
            refine wpAnyH_take (i := 10) (oi := { dst := some 41, op := Go.Op.fieldAddr 65 (Go.Operand.tmp 10) 1, type := 0, pos := "accidental.go:81", after := #[{ on := 9, ground := Go.Ground.guard }], guard := some (9, true) }) (v := ?_) rfl (by kernel_rfl) (by kernel_rfl) (by kernel_rfl) (fun _ _ _ h => h) (Or.inl ⟨by rfl, ?_⟩) (by assumption) ?_
            rotate_left
            · (intro w hSw; (try dsimp only at hSw); go_simp) <;> (with_reducible rfl)
            simp only [Act.put, List.setIfInBounds_toArray, List.set_cons_zero, List.set_cons_succ]
            refine wpAnyH_take (i := 11) (oi := { dst := some 42, op := Go.Op.fieldAddr 52 (Go.Operand.tmp 41) 1, type := 0, pos := "accidental.go:81", after := #[{ on := 10, ground := Go.Ground.data }, { on := 9, ground := Go.Ground.guard }], guard := some (9, true) }) (v := ?_) rfl (by kernel_rfl) (by kernel_rfl) (by kernel_rfl) (fun _ _ _ h => h) (Or.inl ⟨by rfl, ?_⟩) (by assumption) ?_
            rotate_left
            · (intro w hSw; (try dsimp only at hSw); go_simp) <;> (with_reducible rfl)
            simp only [Act.put, List.setIfInBounds_toArray, List.set_cons_zero, List.set_cons_succ]
            refine wpAnyH_take (i := 12) (oi := { dst := some 43, op := Go.Op.load 3 (Go.Operand.tmp 42), type := 3, pos := "accidental.go:81", after := #[{ on := 11, ground := Go.Ground.data }, { on := 9, ground := Go.Ground.guard }], guard := some (9, true) }) (v := ?_) rfl (by kernel_rfl) (by kernel_rfl) (by kernel_rfl) (fun _ _ _ h => h) (Or.inl ⟨by rfl, ?_⟩) (by assumption) ?_
            rotate_left
            · (intro w hSw; (try dsimp only at hSw); go_simp) <;> (with_reducible rfl)
            simp only [Act.put, List.setIfInBounds_toArray, List.set_cons_zero, List.set_cons_succ]
            refine wpAnyH_take (i := 13) (oi := { dst := some 44, op := Go.Op.move (Go.Operand.tmp 11), type := 3, pos := "accidental.go:81", after := #[{ on := 9, ground := Go.Ground.guard }], guard := some (9, true) }) (v := ?_) rfl (by kernel_rfl) (by kernel_rfl) (by kernel_rfl) (fun _ _ _ h => h) (Or.inl ⟨by rfl, ?_⟩) (by assumption) ?_
            rotate_left
            · (intro w hSw; (try dsimp only at hSw); go_simp) <;> (with_reducible rfl)
            simp only [Act.put, List.setIfInBounds_toArray, List.set_cons_zero, List.set_cons_succ]
            refine wpAnyH_take (i := 14) (oi := { dst := some 45, op := Go.Op.indexAddr 58 (Go.Operand.tmp 6) (Go.Operand.tmp 44), type := 0, pos := "accidental.go:81", after := #[{ on := 13, ground := Go.Ground.data }, { on := 9, ground := Go.Ground.guard }], guard := some (9, true) }) (v := ?_) rfl (by kernel_rfl) (by kernel_rfl) (by kernel_rfl) (fun _ _ _ h => h) (Or.inl ⟨by rfl, ?_⟩) (by assumption) ?_
            rotate_left
            · (intro w hSw; (try dsimp only at hSw); go_simp) <;> (with_reducible rfl)
            simp only [Act.put, List.setIfInBounds_toArray, List.set_cons_zero, List.set_cons_succ]
            refine wpAnyH_take (i := 15) (oi := { dst := some 46, op := Go.Op.load 3 (Go.Operand.tmp 45), type := 3, pos := "accidental.go:81", after := #[{ on := 14, ground := Go.Ground.data }, { on := 9, ground := Go.Ground.guard }], guard := some (9, true) }) (v := ?_) rfl (by kernel_rfl) (by kernel_rfl) (by kernel_rfl) (fun _ _ _ h => h) (Or.inl ⟨by rfl, ?_⟩) (by assumption) ?_
            rotate_left
            · (intro w hSw; (try dsimp only at hSw); go_simp) <;> (with_reducible rfl)
            simp only [Act.put, List.setIfInBounds_toArray, List.set_cons_zero, List.set_cons_succ]
            refine wpAnyH_take (i := 16) (oi := { dst := some 47, op := Go.Op.binOp Go.BinOp.neq 3 (Go.Operand.tmp 43) (Go.Operand.tmp 46) 3, type := 4, pos := "accidental.go:81", after := #[{ on := 12, ground := Go.Ground.data }, { on := 15, ground := Go.Ground.data }, { on := 9, ground := Go.Ground.guard }], guard := some (9, true) }) (v := ?_) rfl (by kernel_rfl) (by kernel_rfl) (by kernel_rfl) (fun _ _ _ h => h) (Or.inl ⟨by rfl, ?_⟩) (by assumption) ?_
            rotate_left
            · (intro w hSw; (try dsimp only at hSw); go_simp) <;> (with_reducible rfl)
            simp only [Act.put, List.setIfInBounds_toArray, List.set_cons_zero, List.set_cons_succ]
            refine wpAnyH_take (i := 17) (oi := { dst := some 48, op := Go.Op.pick (Go.Operand.tmp 40) (Go.Operand.tmp 47) (Go.Operand.const (Go.Value.bool false)), type := 4, pos := "accidental.go:81", after := #[{ on := 9, ground := Go.Ground.data }, { on := 16, ground := Go.Ground.data }, { on := 5, ground := Go.Ground.guard }], guard := some (5, false) }) (v := ?_) rfl (by kernel_rfl) (by kernel_rfl) (by kernel_rfl) (fun _ _ _ h => h) (Or.inl ⟨by rfl, ?_⟩) (by assumption) ?_
            rotate_left
            · (intro w hSw; (try dsimp only at hSw); go_simp) <;> (with_reducible rfl)
            simp only [Act.put, List.setIfInBounds_toArray, List.set_cons_zero, List.set_cons_succ]
            refine wpAnyH_take (i := 18) (oi := { dst := some 49, op := Go.Op.pick (Go.Operand.tmp 36) (Go.Operand.const (Go.Value.bool true)) (Go.Operand.tmp 48), type := 4, pos := "accidental.go:81", after := #[{ on := 5, ground := Go.Ground.data }, { on := 17, ground := Go.Ground.data }], guard := none }) (v := ?_) rfl (by kernel_rfl) (by kernel_rfl) (by kernel_rfl) (fun _ _ _ h => h) (Or.inl ⟨by rfl, ?_⟩) (by assumption) ?_
            rotate_left
            · (intro w hSw; (try dsimp only at hSw); go_simp) <;> (with_reducible rfl)
            simp only [Act.put, List.setIfInBounds_toArray, List.set_cons_zero, List.set_cons_succ]
            refine wpAnyH_ready (rs := [19, 20]) (by kernel_rfl) (by simp) ?_
            refine (AllReadyH.cons (o := { dst := some 50, op := Go.Op.call { callee := Go.Callee.value (Go.Operand.func 38), args := #[Go.Operand.tmp 31, Go.Operand.tmp 49], argTypes := #[65, 4] }, type := 43, pos := "accidental.go:81", after := #[{ on := 0, ground := Go.Ground.data }, { on := 18, ground := Go.Ground.data }, { on := 9, ground := Go.Ground.chain }], guard := none }) rfl (fun Kc hKc => ?_) (AllReadyH.cons (o := { dst := some 12, op := Go.Op.alloc 43, type := 0, pos := "accidental.go:81", after := #[], guard := none }) rfl (fun Kc hKc => ?_) AllReadyH.nil))
            · go_simp
              go_at_call 38
              refine (mark_any _ _ _ _ _ _ _ _ HAL.out).mono ?_
              rintro e w4 ⟨rfl, hG4⟩
              rw [HK.out, HPB.out]
              have gq : G W1 w4 := G.trans (by (repeat' (first | (with_reducible exact G.refl _) | (with_reducible refine G.drewN ?_ _) | (with_reducible refine G.drew ?_) | (with_reducible refine G.alloc ?_ _)))) hG4
              obtain ⟨v0, v1, v2, v3, v4, v5⟩ := hN.out.later gq
              dsimp only at v0 v1 v2 v3 v4 v5
              simp only [Nat.zero_add] at v1 v2 v3 v4 v5
              have yc' := gq.at yc1
              have zc' := gq.at zc1
              refine hKc.out _ _ (by ((try dsimp only); first | (with_reducible assumption) | ((repeat' (with_reducible apply And.intro)) <;> go_simp))) (fun hH1 => ?_)
              clear hKc Kc hH0
              clear v0 v1 v2 v3 v4 v5 yc' zc'
              have g4 := gq
              clear gq hG4
              refine wpAnyH_ready (rs := [20]) (by kernel_rfl) (by simp) ?_
              refine (AllReadyH.cons (o := { dst := some 12, op := Go.Op.alloc 43, type := 0, pos := "accidental.go:81", after := #[], guard := none }) rfl (fun Kc hKc => ?_) AllReadyH.nil)
              go_simp
              have gq : G W1 (w4.alloc (.cells #[.int .i64 0, .bool false] 43)) := g4.alloc _
              obtain ⟨⟨m0, m1⟩, m2, m3⟩ := two_fr (w1 := w4.alloc (.cells #[.int .i64 0, .bool false] 43)) rfl (G.refl _)
              have hbm : W1.heap.size ≤ w4.heap.size := g4.size
              obtain ⟨v0, v1, v2, v3, v4, v5⟩ := hN.out.later gq
              dsimp only at v0 v1 v2 v3 v4 v5
              simp only [Nat.zero_add] at v1 v2 v3 v4 v5
              have yc' := gq.at yc1
              have zc' := gq.at zc1
              refine hKc.out _ _ (by ((try dsimp only); first | (with_reducible assumption) | ((repeat' (with_reducible apply And.intro)) <;> go_simp))) (fun hH2 => ?_)
              clear hKc Kc hH1
              clear v0 v1 v2 v3 v4 v5 yc' zc'
              generalize w4.heap.size = bm at *
              generalize w4.alloc (.cells #[.int .i64 0, .bool false] 43) = w5 at *
              clear g4
              refine wpAnyH_ready (rs := [21]) (by kernel_rfl) (by simp) ?_
              refine (AllReadyH.cons (o := { dst := none, op := Go.Op.store 43 (Go.Operand.tmp 12) (Go.Operand.tmp 50), type := 0, pos := "accidental.go:81", after := #[{ on := 20, ground := Go.Ground.data }, { on := 19, ground := Go.Ground.data }, { on := 19, ground := Go.Ground.chain }, { on := 0, ground := Go.Ground.phase }, { on := 1, ground := Go.Ground.phase }, { on := 2, ground := Go.Ground.phase }, { on := 3, ground := Go.Ground.phase }, { on := 4, ground := Go.Ground.phase }, { on := 5, ground := Go.Ground.phase }, { on := 6, ground := Go.Ground.phase }, { on := 7, ground := Go.Ground.phase }, { on := 8, ground := Go.Ground.phase }, { on := 9, ground := Go.Ground.phase }, { on := 10, ground := Go.Ground.phase }, { on := 11, ground := Go.Ground.phase }, { on := 12, ground := Go.Ground.phase }, { on := 13, ground := Go.Ground.phase }, { on := 14, ground := Go.Ground.phase }, { on := 15, ground := Go.Ground.phase }, { on := 16, ground := Go.Ground.phase }, { on := 17, ground := Go.Ground.phase }, { on := 18, ground := Go.Ground.phase }, { on := 19, ground := Go.Ground.phase }, { on := 20, ground := Go.Ground.phase }], guard := none }) rfl (fun Kc hKc => ?_) AllReadyH.nil)
              obtain ⟨v0, v1, v2, v3, v4, v5⟩ := hN.out.later gq
              dsimp only at v0 v1 v2 v3 v4 v5
              simp only [Nat.zero_add] at v1 v2 v3 v4 v5
              have yc' := gq.at yc1
              have zc' := gq.at zc1
              have far : ∀ {q j : Nat} {u : Value}, bm ≠ q → w5.cell? ⟨q, j, none⟩ = some u → ((w5.setCell ⟨bm, 0, none⟩ (.int .i64 K)).setCell ⟨bm, 1, none⟩ (.bool PB)).cell? ⟨q, j, none⟩ = some u := fun h1 h2 => by
                rw [World.cell?_setCell_far _ _ _ _ h1, World.cell?_setCell_far _ _ _ _ h1]; exact h2
              go_simp
              refine hKc.out _ _ ⟨far (by omega) v0, far (by omega) v1, far (by omega) v2, far (by omega) v3, far (by omega) v4, far (by omega) v5, far (by omega) yc', far (by omega) zc'⟩ (fun hHs => ?_)
              clear hKc Kc hHs far v0 v1 v2 v3 v4 v5 yc' zc'
              refine wpAnyH_done (by kernel_rfl) ?_ _
              have g5 := gq
              clear gq
              obtain ⟨cK, cP⟩ := two_set (u := .int .i64 K) (v := .bool PB) m0 m1
              have gZ : G W1 ((w5.setCell ⟨bm, 0, none⟩ (.int .i64 K)).setCell ⟨bm, 1, none⟩ (.bool PB)) := (g5.setCell (p := ⟨bm, 0, none⟩) hbm _).setCell (p := ⟨bm, 1, none⟩) hbm _
              generalize (w5.setCell ⟨bm, 0, none⟩ (.int .i64 K)).setCell ⟨bm, 1, none⟩ (.bool PB) = W5 at *
              have gW := gW1.trans gZ
              have hsz5 := gZ.size
              have R5 := Lib.hid (hR.out.later gW)
              have A65 := Lib.hid (hA6.out.later gW)
              have A55 := Lib.hid (hA5.out.later gW)
              have C5 := Lib.hid (hCl.out.later gW)
              have gw5 := Lib.hid (gr.trans gW)
              obtain ⟨u0, u1, u2, u3, u4, u5⟩ := (hN.out.later gZ)
              dsimp only at u0 u1 u2 u3 u4 u5
              simp only [Nat.zero_add] at u1 u2 u3 u4 u5
              obtain ⟨s6, f6⟩ := A65.out pn p2
              rw [← HPN.out] at s6
              have A66 := Lib.hid (A65.out.set p0 p1 al)
              rw [hpn2] at A66
              have R6 := Lib.hid (R5.out.far (b := b6) (by omega) pn (.int .i64 al))
              have C6 := Lib.hid (show Cls (W5.setCell ⟨b6, pn, none⟩ (.int .i64 al)) g l.length h by
                intro j hj
                refine ⟨?_, by simp [go_sem]; exact (C5.out j hj).2⟩
                rw [World.cell?_setCell_far _ _ _ _ (show b6 ≠ g by omega)]; exact (C5.out j hj).1)
              have A56 := Lib.hid (show Arr (W5.setCell ⟨b6, pn, none⟩ (.int .i64 al)) b5 (fun _ => 0) by
                intro j hj
                refine ⟨?_, by simp [go_sem]; exact (A55.out j hj).2⟩
                rw [World.cell?_setCell_far _ _ _ _ (show b6 ≠ b5 by omega)]; exact (A55.out j hj).1)
              have gw6 := Lib.hid (gw5.out.setCell (p := ⟨b6, pn, none⟩) (by have := hb5.out; show w.heap.size ≤ b6; omega) (.int .i64 al))
              have cK6 : (W5.setCell ⟨b6, pn, none⟩ (.int .i64 al)).cell? ⟨bm, 0, none⟩ = some (.int .i64 K) := by rw [World.cell?_setCell_far _ _ _ _ (show b6 ≠ bm by omega)]; exact cK
              have cP6 : (W5.setCell ⟨b6, pn, none⟩ (.int .i64 al)).cell? ⟨bm, 1, none⟩ = some (.bool PB) := by rw [World.cell?_setCell_far _ _ _ _ (show b6 ≠ bm by omega)]; exact cP
              go_wp2_with (at_builtin; refine wpList_append_own _ rfl _ _ 24 rfl base 43 i0 (.agg #[.int .i64 0, .bool false]) 2 16 Tryd.underlying24 hi hz0 hz1 hz2 rfl (by decide) v M.length (M.flatMap mkE) rfl (R6.out.later (by (repeat' (first | (with_reducible exact G.refl _) | (with_reducible assumption) | (with_reducible refine G.drewN ?_ _) | (with_reducible refine G.drew ?_) | (with_reducible refine G.alloc ?_ _) | (with_reducible refine G.setCell ?_ (by first | (with_reducible exact Nat.le_refl _) | (simp; done) | (simp; omega) | omega) _) | (with_reducible refine G.trans ?_ (by assumption)))))) ⟨W5.heap.size, 0, none⟩ 1 1 [.int .i64 K, .bool PB] rfl rfl (new_add _ _ [.int .i64 K, .bool PB] _ (by simp [go_sem])) (by simp [Value.oneCell']) (by unfold maxLen; omega) (by omega) (by simp [go_sem]; omega) ?_; intro v' w6 hown' hgrow _)
              have RN := Lib.hid (Row.more (enc := mkE) (M := M) (x := (K, PB)) hown')
              have AN := Lib.hid (show Arr w6 b6 (nx K ⟨t, s, al, o, false, sh⟩ F) by rw [HXP.out, if_neg HK0.out]; exact (A66.out).more hgrow (Row.ne R6.out (by omega)))
              have A5N := Lib.hid ((A56.out).more hgrow (Row.ne R6.out (by omega)))
              have CN := Lib.hid ((C6.out).more hgrow (Row.ne R6.out (by omega)))
              have gN : G w w6 := (gw6.out).more hgrow (fun k hk => by have := Row.own R6.out k hk; have := hb5.out; omega)
              have hsN := hgrow.size
              go_roundg (l.length - (i + 1))
              case measure => have := HQ.out; omega
              case rel => exact ⟨i + 1, v', M ++ [(K, PB)], _, rfl, by first | rfl | simp, rfl, by omega, by rw [List.length_append, HM.out]; rfl, HD2, HDF2, RN, AN, A5N, CN, gN, by simp [go_sem] at hsN; omega⟩
            · go_simp
              have gq : G W1 (W1.drew.alloc (.cells #[.int .i64 0, .bool false] 43)) := by (repeat' (first | (with_reducible exact G.refl _) | (with_reducible refine G.drewN ?_ _) | (with_reducible refine G.drew ?_) | (with_reducible refine G.alloc ?_ _)))
              obtain ⟨v0, v1, v2, v3, v4, v5⟩ := hN.out.later gq
              dsimp only at v0 v1 v2 v3 v4 v5
              simp only [Nat.zero_add] at v1 v2 v3 v4 v5
              have yc' := gq.at yc1
              have zc' := gq.at zc1
              refine hKc.out _ _ (by ((try dsimp only); first | (with_reducible assumption) | ((repeat' (with_reducible apply And.intro)) <;> go_simp))) (fun hH4 => ?_)
              clear hKc Kc hH0
              clear v0 v1 v2 v3 v4 v5 yc' zc'
              have g4 := gq
              clear gq
              refine wpAnyH_ready (rs := [19]) (by kernel_rfl) (by simp) ?_
              refine (AllReadyH.cons (o := { dst := some 50, op := Go.Op.call { callee := Go.Callee.value (Go.Operand.func 38), args := #[Go.Operand.tmp 31, Go.Operand.tmp 49], argTypes := #[65, 4] }, type := 43, pos := "accidental.go:81", after := #[{ on := 0, ground := Go.Ground.data }, { on := 18, ground := Go.Ground.data }, { on := 9, ground := Go.Ground.chain }], guard := none }) rfl (fun Kc hKc => ?_) AllReadyH.nil)
              go_simp
              go_at_call 38
              refine (mark_any _ _ _ _ _ _ _ _ HAL.out).mono ?_
              rintro e w5 ⟨rfl, hG5⟩
              rw [HK.out, HPB.out]
              have gq : G W1 w5 := G.trans (by (repeat' (first | (with_reducible exact G.refl _) | (with_reducible refine G.drewN ?_ _) | (with_reducible refine G.drew ?_) | (with_reducible refine G.alloc ?_ _)))) hG5
              have hG6 : G (W1.alloc (.cells #[.int .i64 0, .bool false] 43)) w5 := G.trans (G.drew (G.refl _)) hG5
              obtain ⟨⟨m0, m1⟩, m2, m3⟩ := two_fr rfl hG6
              obtain ⟨bm, hbmv⟩ : ∃ z : Nat, W1.heap.size = z := ⟨_, rfl⟩
              have hbm : W1.heap.size ≤ bm := by omega
              rw [hbmv] at m0 m1 m2 m3
              try rw [hbmv]
              obtain ⟨v0, v1, v2, v3, v4, v5⟩ := hN.out.later gq
              dsimp only at v0 v1 v2 v3 v4 v5
              simp only [Nat.zero_add] at v1 v2 v3 v4 v5
              have yc' := gq.at yc1
              have zc' := gq.at zc1
              refine hKc.out _ _ (by ((try dsimp only); first | (with_reducible assumption) | ((repeat' (with_reducible apply And.intro)) <;> go_simp))) (fun hH5 => ?_)
              clear hKc Kc hH4
              clear v0 v1 v2 v3 v4 v5 yc' zc'
              clear hG5 hG6 g4
              refine wpAnyH_ready (rs := [21]) (by kernel_rfl) (by simp) ?_
              refine (AllReadyH.cons (o := { dst := none, op := Go.Op.store 43 (Go.Operand.tmp 12) (Go.Operand.tmp 50), type := 0, pos := "accidental.go:81", after := #[{ on := 20, ground := Go.Ground.data }, { on := 19, ground := Go.Ground.data }, { on := 19, ground := Go.Ground.chain }, { on := 0, ground := Go.Ground.phase }, { on := 1, ground := Go.Ground.phase }, { on := 2, ground := Go.Ground.phase }, { on := 3, ground := Go.Ground.phase }, { on := 4, ground := Go.Ground.phase }, { on := 5, ground := Go.Ground.phase }, { on := 6, ground := Go.Ground.phase }, { on := 7, ground := Go.Ground.phase }, { on := 8, ground := Go.Ground.phase }, { on := 9, ground := Go.Ground.phase }, { on := 10, ground := Go.Ground.phase }, { on := 11, ground := Go.Ground.phase }, { on := 12, ground := Go.Ground.phase }, { on := 13, ground := Go.Ground.phase }, { on := 14, ground := Go.Ground.phase }, { on := 15, ground := Go.Ground.phase }, { on := 16, ground := Go.Ground.phase }, { on := 17, ground := Go.Ground.phase }, { on := 18, ground := Go.Ground.phase }, { on := 19, ground := Go.Ground.phase }, { on := 20, ground := Go.Ground.phase }], guard := none }) rfl (fun Kc hKc => ?_) AllReadyH.nil)
              obtain ⟨v0, v1, v2, v3, v4, v5⟩ := hN.out.later gq
              dsimp only at v0 v1 v2 v3 v4 v5
              simp only [Nat.zero_add] at v1 v2 v3 v4 v5
              have yc' := gq.at yc1
              have zc' := gq.at zc1
              have far : ∀ {q j : Nat} {u : Value}, bm ≠ q → w5.cell? ⟨q, j, none⟩ = some u → ((w5.setCell ⟨bm, 0, none⟩ (.int .i64 K)).setCell ⟨bm, 1, none⟩ (.bool PB)).cell? ⟨q, j, none⟩ = some u := fun h1 h2 => by
                rw [World.cell?_setCell_far _ _ _ _ h1, World.cell?_setCell_far _ _ _ _ h1]; exact h2
              go_simp
              refine hKc.out _ _ ⟨far (by omega) v0, far (by omega) v1, far (by omega) v2, far (by omega) v3, far (by omega) v4, far (by omega) v5, far (by omega) yc', far (by omega) zc'⟩ (fun hHs => ?_)
              clear hKc Kc hHs far v0 v1 v2 v3 v4 v5 yc' zc'
              refine wpAnyH_done (by kernel_rfl) ?_ _
              have g5 := gq
              clear gq
              obtain ⟨cK, cP⟩ := two_set (u := .int .i64 K) (v := .bool PB) m0 m1
              have gZ : G W1 ((w5.setCell ⟨bm, 0, none⟩ (.int .i64 K)).setCell ⟨bm, 1, none⟩ (.bool PB)) := (g5.setCell (p := ⟨bm, 0, none⟩) hbm _).setCell (p := ⟨bm, 1, none⟩) hbm _
              generalize (w5.setCell ⟨bm, 0, none⟩ (.int .i64 K)).setCell ⟨bm, 1, none⟩ (.bool PB) = W5 at *
              have gW := gW1.trans gZ
              have hsz5 := gZ.size
              have R5 := Lib.hid (hR.out.later gW)
              have A65 := Lib.hid (hA6.out.later gW)
              have A55 := Lib.hid (hA5.out.later gW)
              have C5 := Lib.hid (hCl.out.later gW)
              have gw5 := Lib.hid (gr.trans gW)
              obtain ⟨u0, u1, u2, u3, u4, u5⟩ := (hN.out.later gZ)
              dsimp only at u0 u1 u2 u3 u4 u5
              simp only [Nat.zero_add] at u1 u2 u3 u4 u5
              obtain ⟨s6, f6⟩ := A65.out pn p2
              rw [← HPN.out] at s6
              have A66 := Lib.hid (A65.out.set p0 p1 al)
              rw [hpn2] at A66
              have R6 := Lib.hid (R5.out.far (b := b6) (by omega) pn (.int .i64 al))
              have C6 := Lib.hid (show Cls (W5.setCell ⟨b6, pn, none⟩ (.int .i64 al)) g l.length h by
                intro j hj
                refine ⟨?_, by simp [go_sem]; exact (C5.out j hj).2⟩
                rw [World.cell?_setCell_far _ _ _ _ (show b6 ≠ g by omega)]; exact (C5.out j hj).1)
              have A56 := Lib.hid (show Arr (W5.setCell ⟨b6, pn, none⟩ (.int .i64 al)) b5 (fun _ => 0) by
                intro j hj
                refine ⟨?_, by simp [go_sem]; exact (A55.out j hj).2⟩
                rw [World.cell?_setCell_far _ _ _ _ (show b6 ≠ b5 by omega)]; exact (A55.out j hj).1)
              have gw6 := Lib.hid (gw5.out.setCell (p := ⟨b6, pn, none⟩) (by have := hb5.out; show w.heap.size ≤ b6; omega) (.int .i64 al))
              have cK6 : (W5.setCell ⟨b6, pn, none⟩ (.int .i64 al)).cell? ⟨bm, 0, none⟩ = some (.int .i64 K) := by rw [World.cell?_setCell_far _ _ _ _ (show b6 ≠ bm by omega)]; exact cK
              have cP6 : (W5.setCell ⟨b6, pn, none⟩ (.int .i64 al)).cell? ⟨bm, 1, none⟩ = some (.bool PB) := by rw [World.cell?_setCell_far _ _ _ _ (show b6 ≠ bm by omega)]; exact cP
              go_wp2_with (at_builtin; refine wpList_append_own _ rfl _ _ 24 rfl base 43 i0 (.agg #[.int .i64 0, .bool false]) 2 16 Tryd.underlying24 hi hz0 hz1 hz2 rfl (by decide) v M.length (M.flatMap mkE) rfl (R6.out.later (by (repeat' (first | (with_reducible exact G.refl _) | (with_reducible assumption) | (with_reducible refine G.drewN ?_ _) | (with_reducible refine G.drew ?_) | (with_reducible refine G.alloc ?_ _) | (with_reducible refine G.setCell ?_ (by first | (with_reducible exact Nat.le_refl _) | (simp; done) | (simp; omega) | omega) _) | (with_reducible refine G.trans ?_ (by assumption)))))) ⟨W5.heap.size, 0, none⟩ 1 1 [.int .i64 K, .bool PB] rfl rfl (new_add _ _ [.int .i64 K, .bool PB] _ (by simp [go_sem])) (by simp [Value.oneCell']) (by unfold maxLen; omega) (by omega) (by simp [go_sem]; omega) ?_; intro v' w6 hown' hgrow _)
              have RN := Lib.hid (Row.more (enc := mkE) (M := M) (x := (K, PB)) hown')
              have AN := Lib.hid (show Arr w6 b6 (nx K ⟨t, s, al, o, false, sh⟩ F) by rw [HXP.out, if_neg HK0.out]; exact (A66.out).more hgrow (Row.ne R6.out (by omega)))
              have A5N := Lib.hid ((A56.out).more hgrow (Row.ne R6.out (by omega)))
              have CN := Lib.hid ((C6.out).more hgrow (Row.ne R6.out (by omega)))
              have gN : G w w6 := (gw6.out).more hgrow (fun k hk => by have := Row.own R6.out k hk; have := hb5.out; omega)
              have hsN := hgrow.size
              go_roundg (l.length - (i + 1))
              case measure => have := HQ.out; omega
              case rel => exact ⟨i + 1, v', M ++ [(K, PB)], _, rfl, by first | rfl | simp, rfl, by omega, by rw [List.length_append, HM.out]; rfl, HD2, HDF2, RN, AN, A5N, CN, gN, by simp [go_sem] at hsN; omega⟩
    · have hii : i = l.length := by omega
      subst hii
      have HV := Lib.hid (show M = disp f l by rw [← hD.out, List.drop_length]; simp [dsM])
      have HFE := Lib.hid (show F = carr f l by rw [← hDF.out, List.drop_length]; rfl)
      obtain ⟨pv, cv, rfl, _⟩ := hR.out.len
      have gd : G wr wr.drew := by (repeat' (first | (with_reducible exact G.refl _) | (with_reducible refine G.drewN ?_ _) | (with_reducible refine G.drew ?_) | (with_reducible refine G.alloc ?_ _)))
      have hS0 : wr.drew.rangeAt b6 0 (arrL F) ∧ wr.drew.there b5 0 77 := ⟨(hA6.out.later gd).range, (hA5.out.later gd).there⟩
      have gS := Lib.hid (G.setCells (a := w) b5 (by have := hb5.out; omega) (arrL F) 0 (gr.trans gd))
      have hb5b : b5 < base := by omega
      have HRR := Lib.hid (Row.setCells hb5b (arrL F) 0 (hR.out.later gd))
      have hl5 := run_loadVar_mid (P := Tryd.prog) _ b5 0 58 (arrL F) _ ((hA5.out.later gd).stored F).range Tryd.underlying58 rfl (by rw [arrL_len]; exact aInfo)
      have HL5 := Lib.hid hl5
      have HL := Lib.hid (arrL_len F)
      have HO := Lib.hid (arrL_one F)
      have HSZ := Lib.hid (show (Tryd.prog.info? 58).map (·.size) = some (arrL F).length by rw [HL.out]; exact aInfo)
      have HLF := Lib.hid (show arrL F = arrL (carr f l) by rw [HFE.out])
      clear hA6 hA5 hR hCl hl5 HFE hD hDF
      generalize arrL F = LF at *
      go_wp2_with fail
      refine wp_region_held_drew (S := fun w' => w'.rangeAt b6 0 LF ∧ w'.there b5 0 77) (by kernel_rfl) (by exact hS0) (fun hH0 => ?_)
      refine wpAnyH_take (i := 0) (oi := { dst := some 64, op := Go.Op.move (Go.Operand.tmp 7), type := 24, pos := "accidental.go:87", after := #[], guard := none }) (v := ?_) rfl (by kernel_rfl) (by kernel_rfl) (by kernel_rfl) (fun _ _ _ h => h) (Or.inl ⟨by rfl, ?_⟩) (by assumption) ?_
      rotate_left
      · (intro w hSw; (try dsimp only at hSw); go_simp) <;> (with_reducible rfl)
      simp only [Act.put, List.setIfInBounds_toArray, List.set_cons_zero, List.set_cons_succ]
      refine wpAnyH_take (i := 1) (oi := { dst := some 65, op := Go.Op.load 58 (Go.Operand.tmp 6), type := 58, pos := "accidental.go:87", after := #[{ on := 2, ground := Go.Ground.gcOnly Go.Departure.lateStores }], guard := none }) rfl (by kernel_rfl) (by kernel_rfl) (by kernel_rfl) (fun _ _ _ h => h) (yieldsIf_load_mid (by rfl) 58 (.tmp 6) rfl b6 0 rfl LF _ (fun _ h => h.1) Tryd.underlying58 rfl HSZ.out) (by assumption) ?_
      simp only [Act.put, List.setIfInBounds_toArray, List.set_cons_zero, List.set_cons_succ]
      refine wpAnyH_take (i := 2) (oi := { dst := some 4, op := Go.Op.assign (Go.Operand.tmp 64), type := 24, pos := "accidental.go:87", after := #[{ on := 0, ground := Go.Ground.data }, { on := 0, ground := Go.Ground.phase }, { on := 1, ground := Go.Ground.textOnly Go.Departure.lateStores }], guard := none }) (v := ?_) rfl (by kernel_rfl) (by kernel_rfl) (by kernel_rfl) (fun _ _ _ h => h) (Or.inl ⟨by rfl, ?_⟩) (by assumption) ?_
      rotate_left
      · (intro w hSw; (try dsimp only at hSw); go_simp) <;> (with_reducible rfl)
      simp only [Act.put, List.setIfInBounds_toArray, List.set_cons_zero, List.set_cons_succ]
      refine wpAnyH_ready (rs := [3]) (by kernel_rfl) (by simp) ?_
      refine (AllReadyH.cons (o := { dst := none, op := Go.Op.store 58 (Go.Operand.tmp 5) (Go.Operand.tmp 65), type := 0, pos := "accidental.go:87", after := #[{ on := 1, ground := Go.Ground.data }, { on := 2, ground := Go.Ground.chain }, { on := 0, ground := Go.Ground.phase }, { on := 1, ground := Go.Ground.phase }, { on := 2, ground := Go.Ground.phase }], guard := none }) rfl (fun Kc hKc => ?_) AllReadyH.nil)
      rw [if_pos (by rfl)]
      refine wp_store_mid 58 _ _ rfl b5 0 LF.toArray rfl rfl (by simp only [List.size_toArray]; rw [HL.out]; exact hS0.2) (by simpa using HSZ.out) HO.out ?_
      refine hKc.out _ _ ⟨World.rangeAt_setCells_apart hS0.1 _ _ _ (.inl (by omega)), World.there_setCells hS0.2 _ _ _⟩ (fun hH9 => ?_)
      clear hKc Kc
      refine wpAnyH_done (by kernel_rfl) ?_ _
      go_wp2_with fail
      refine bodyPost_ret (v := .tuple #[.slice pv l.length cv, .agg LF.toArray]) ?_ rfl ?_
      · refine Eq.trans (results_tmp_cell Tryd.results28 _ _ _ ?_ HL5.out) ?_
        · rfl
        · rfl
      · refine ⟨_, by rw [HLF.out], ?_, gS.out⟩
        have hrr := HRR.out
        rw [HM.out] at hrr
        rw [← HV.out]
        unfold Row
        exact own_base hrr (by have := hb5.out; omega)
end Go.Proofs.YtghlecocnflbnaaDoor
