import Derived.Test.YtghlecocnflbnaaDoorR2
/-! Accidentals: the reference's Display. -/
namespace Go.Proofs.YtghlecocnflbnaaDoor
open Go.RowKit
attribute [local go_sem] World.cell?_alloc_some

def mkE2 (m : Int × Bool) : List Value := [.int .i64 m.1, .bool m.2]
theorem mkE2_len (m : Int × Bool) : (mkE2 m).length = 2 := rfl
theorem MInfo : (Tryd.prog.info? 40).map (fun i => (i.zero, i.size, i.bytes)) = some (some (.agg #[.int .i64 0, .bool false]), 2, 16) := by kernel_rfl
section
variable {α : Type} {enc : α → List Value} {e : TypeId} {sz base : Nat} {wr : World} {v : Value} {M : List α}
theorem Row.al (h : Row enc e sz base wr v M) (ob : Obj) : Row enc e sz base (wr.alloc ob) v M := h.later (show G wr (wr.alloc ob) by (repeat' (first | (with_reducible exact G.refl _) | (with_reducible assumption) | (with_reducible refine G.drewN ?_ _) | (with_reducible refine G.drew ?_) | (with_reducible refine G.alloc ?_ _) | (with_reducible refine G.setCell ?_ (by first | (with_reducible exact Nat.le_refl _) | (simp; done) | (simp; omega) | omega) _) | (with_reducible refine G.trans ?_ (by assumption)))))
theorem Row.drw (h : Row enc e sz base wr v M) : Row enc e sz base wr.drew v M := h.later (show G wr wr.drew by (repeat' (first | (with_reducible exact G.refl _) | (with_reducible refine G.drewN ?_ _) | (with_reducible refine G.drew ?_) | (with_reducible refine G.alloc ?_ _))))
theorem Row.farN (h : Row enc e sz base wr v M) {b : Nat} (hb : v.ownBlock ≠ some b) (j : Nat) (u : Value) : Row enc e sz base (wr.setCell ⟨b, j, none⟩ u) v M :=
  World.ownsRow.kept (row := some b) h ⟨rfl, rfl, rfl, by simp [World.setCell], fun k _ hk => heap_setCell_other _ _ _ _ (fun e => hk (by rw [e]))⟩ (.inr hb)
theorem Row.ltN (h : Row enc e sz base wr v M) : v.ownBlock ≠ some wr.heap.size := by
  rcases h.2 with ⟨rfl, _⟩ | ⟨g, cap, cur, rfl, _, hb, _⟩
  · simp [Value.ownBlock]
  · have hlt : g < wr.heap.size := by
      by_cases c : g < wr.heap.size
      · exact c
      · rw [Array.getElem?_eq_none (by omega)] at hb; cases hb
    simp only [Value.ownBlock, ne_eq, Option.some.injEq]
    omega
theorem Arr.al {w : World} {b : Nat} {F : Int → Int} (h : Arr w b F) (ob : Obj) : Arr (w.alloc ob) b F := h.later (show G w (w.alloc ob) by (repeat' (first | (with_reducible exact G.refl _) | (with_reducible assumption) | (with_reducible refine G.drewN ?_ _) | (with_reducible refine G.drew ?_) | (with_reducible refine G.alloc ?_ _) | (with_reducible refine G.setCell ?_ (by first | (with_reducible exact Nat.le_refl _) | (simp; done) | (simp; omega) | omega) _) | (with_reducible refine G.trans ?_ (by assumption)))))
theorem Arr.farC {w : World} {b : Nat} {F : Int → Int} (h : Arr w b F) {g : Nat} (hg : g ≠ b) (j : Nat) (v : Value) : Arr (w.setCell ⟨g, j, none⟩ v) b F := fun k hk => by
  refine ⟨?_, by simp [go_sem]; exact (h k hk).2⟩
  rw [World.cell?_setCell_far _ _ _ _ hg]; exact (h k hk).1
theorem Arr.setN {w : World} {b : Nat} {F : Int → Int} (h : Arr w b F) {c : Int} {n : Nat} (hc : c = n) (hn : n < 77) (v : Int) : Arr (w.setCell ⟨b, n, none⟩ (.int .i64 v)) b (upd F c v) := by
  have := h.set (c := c) (by omega) (by omega) v
  rwa [show c.toNat = n by omega] at this
end

set_option maxRecDepth 100000 in
set_option maxHeartbeats 12800000 in
theorem rDisplay_any (f : Int) (a : Option Addr) (l : List Nt) (n c : Nat) (w : World) (hn : l.length = n) (hl : n ≤ 2560) (h1 : NtsAt w a l) (hok : ∀ x ∈ l, NOk x) (hf : Sg f) :
    Calls Tryd.prog 17 #[.int .i64 f, .slice a n c] w fun e w' => ∃ v gf cap, e = .returned (.tuple #[v, .slice (some ⟨gf, 0, none⟩) 77 cap]) ∧ Row mkE2 40 2 w.heap.size w' v (disp f l) ∧ w.heap.size ≤ gf ∧ 77 ≤ cap ∧ Arr w' gf (carr f l) ∧ G w w' := by
  subst hn
  obtain ⟨i0, hi, hz0, hz1, hz2⟩ := info_parts' MInfo
  have H1 := Lib.hid h1
  have HOK := Lib.hid hok
  have HF := Lib.hid hf
  clear h1 hok hf
  go_enter Tryd.func17, Tryd.ntmps17
  go_wp2_with fail
  refine (rStart_any f _ HF.out).mono ?_
  rintro e w1 ⟨gf, cap, rfl, hgf, hcap, hA, hG1⟩
  have g1 : G w w1 := by (repeat' (first | (with_reducible exact G.refl _) | (with_reducible assumption) | (with_reducible refine G.drewN ?_ _) | (with_reducible refine G.drew ?_) | (with_reducible refine G.alloc ?_ _) | (with_reducible refine G.setCell ?_ (by first | (with_reducible exact Nat.le_refl _) | (simp; done) | (simp; omega) | omega) _) | (with_reducible refine G.trans ?_ (by assumption))))
  have A1 := Lib.hid hA
  have ltf : gf < w1.heap.size := cell_lt (hA 0 (by omega)).1
  have HGF := Lib.hid hgf
  have hgf' : w.heap.size ≤ gf := by have := HGF.out; simpa using this
  clear hA hgf hG1
  obtain ⟨base, hbase⟩ : ∃ z : Nat, Hid (w1.heap.size = z) := ⟨_, rfl⟩
  rw [hbase.out] at ltf
  have hcap2 : (77 : Int) ≤ (cap : Int) := by omega
  go_wp2_with fail
  go_loopg [7, 8] l.length (fun q y x wr => ∃ (i : Nat) (v : Value) (M : List (Int × Bool)) (F : Int → Int), v = y ∧ x = .int .i64 i ∧ q = l.length - i ∧ i ≤ l.length ∧ M.length = i ∧ Hid (M ++ dsM (cl l) F (l.drop i) = disp f l) ∧ Hid (dsF (cl l) F (l.drop i) = carr f l) ∧ Hid (Row mkE2 40 2 base wr v M) ∧ Hid (Arr wr gf F) ∧ G w wr ∧ base ≤ wr.heap.size)
  case atStart => exact ⟨0, _, [], sg0 f, rfl, rfl, by omega, by omega, rfl, Lib.hid rfl, Lib.hid rfl, Lib.hid (Row.nil _), A1, g1, by have := hbase.out; omega⟩
  case round =>
    clear A1
    obtain ⟨i, v, M, F, rfl, rfl, hq, hi', hM, hD, hDF, hR, hA, gr, hbs⟩ := hrel
    have HQ := Lib.hid hq
    have HM := Lib.hid hM
    clear hq
    by_cases hin : i < l.length
    · obtain ⟨⟨t, s, al, o, hd, sh⟩, hp⟩ : ∃ c, l[i]? = some c := ⟨l[i], List.getElem?_eq_getElem hin⟩
      rcases H1.out with hz | ⟨bl, of, rfl, fc⟩
      · rw [hz] at hin; exact absurd hin (by simp)
      obtain ⟨x0, x1, x2, x3, x4, x5⟩ := (fc i _ hp).later gr
      dsimp only at x0 x1 x2 x3 x4 x5
      have HP := Lib.hid hp
      obtain ⟨_, hpos, hal, _, _⟩ := HOK.out _ (List.mem_of_getElem? hp)
      dsimp only at hpos hal
      have HPOS := Lib.hid hpos
      have q3 := IntWalk.i64_in (al + 3) (by unfold AOk at hal; omega)
      obtain ⟨P, hP⟩ : ∃ z : Int, Hid (z = ix s o) := ⟨_, rfl⟩
      have hPb : 0 ≤ P ∧ P < 77 := by rw [hP.out]; exact ix_bd hpos
      obtain ⟨p0, p1⟩ := hPb
      obtain ⟨pn, hpn⟩ : ∃ z : Nat, P = (z : Int) := ⟨P.toNat, by omega⟩
      have hpn2 : P.toNat = pn := by omega
      have p2 : pn < 77 := by omega
      obtain ⟨zc6, zf6⟩ := hA.out pn p2
      rw [← hpn] at zc6
      obtain ⟨C, hC⟩ : ∃ z : Bool, Hid (z = cl l ⟨t, s, al, o, hd, sh⟩) := ⟨_, rfl⟩
      obtain ⟨FP, hFP⟩ : ∃ z : Int, Hid (z = F P) := ⟨_, rfl⟩
      rw [← hFP.out] at zc6
      have HPN := Lib.hid hpn
      clear fc hp hpos hal zf6 hpn
      have b1 : (0 : Int) ≤ (i : Int) := by omega
      have b2 : (i : Int) < (l.length : Int) := by omega
      have q1 := IntWalk.i64_in ((i : Int) + 1) (by omega)
      obtain ⟨D, hDD⟩ : ∃ z : Bool, Hid (z = nee (cl l ⟨t, s, al, o, hd, sh⟩) ⟨t, s, al, o, hd, sh⟩ F) := ⟨_, rfl⟩
      have HDC := Lib.hid (show D = (C || (!hd && decide (al ≠ FP))) by rw [hDD.out, ← hC.out, hFP.out, hP.out]; rfl)
      have HD2 := Lib.hid (show ∀ K PB, mK D ⟨t, s, al, o, hd, sh⟩ = K → mP D ⟨t, s, al, o, hd, sh⟩ = PB → (M ++ [(K, PB)]) ++ dsM (cl l) (if K = 0 then F else upd F P al) (l.drop (i + 1)) = disp f l by
        intro K PB hK hPB
        have e : nx K ⟨t, s, al, o, hd, sh⟩ F = if K = 0 then F else upd F P al := by unfold nx; rw [hP.out]
        rw [← e, ← hD.out, dsM_step HP.out, ← hDD.out, hK, hPB, List.append_assoc]; rfl)
      have HDF2 := Lib.hid (show ∀ K, mK D ⟨t, s, al, o, hd, sh⟩ = K → dsF (cl l) (if K = 0 then F else upd F P al) (l.drop (i + 1)) = carr f l by
        intro K hK
        have e : nx K ⟨t, s, al, o, hd, sh⟩ F = if K = 0 then F else upd F P al := by unfold nx; rw [hP.out]
        rw [← e, ← hDF.out, dsF_step HP.out, ← hDD.out, hK])
      clear hD hDF hDD hFP
      by_cases hh : hd = true
      · subst hh
        by_cases hC1 : C = true
        · obtain rfl : C = true := hC1
          have HDE := Lib.hid (show D = true by rw [HDC.out]; rfl)
          go_wp2_with fail
          refine (rIndex_any s o _ HPOS.out).mono ?_
          rintro e w4 ⟨rfl, rfl⟩
          rw [← hP.out]
          go_wp2_with fail
          have gW1 : G wr (wr.alloc (.cells #[.int .i64 t, .int .i64 s, .int .i64 al, .int .i64 o, .bool true, .int .i64 sh] 54)) := by (repeat' (first | (with_reducible exact G.refl _) | (with_reducible assumption) | (with_reducible refine G.drewN ?_ _) | (with_reducible refine G.drew ?_) | (with_reducible refine G.alloc ?_ _) | (with_reducible refine G.setCell ?_ (by first | (with_reducible exact Nat.le_refl _) | (simp; done) | (simp; omega) | omega) _) | (with_reducible refine G.trans ?_ (by assumption))))
          have hN : Hid (Nt6 (wr.alloc (.cells #[.int .i64 t, .int .i64 s, .int .i64 al, .int .i64 o, .bool true, .int .i64 sh] 54)) wr.heap.size 0 ⟨t, s, al, o, true, sh⟩) := Lib.hid (six_at (W := wr) rfl (G.refl _))
          have zc1 := gW1.at zc6
          obtain ⟨u0, u1, u2, u3, u4, u5⟩ := hN.out
          dsimp only at u0 u1 u2 u3 u4 u5
          simp only [Nat.zero_add] at u1 u2 u3 u4 u5
          have hb1 := Lib.hid (show base ≤ (wr.alloc (.cells #[.int .i64 t, .int .i64 s, .int .i64 al, .int .i64 o, .bool true, .int .i64 sh] 54)).heap.size by have := gW1.size; omega)
          generalize wr.alloc (.cells #[.int .i64 t, .int .i64 s, .int .i64 al, .int .i64 o, .bool true, .int .i64 sh] 54) = W1 at *
          generalize wr.heap.size = bn at *
          refine wp_region_held_drew (S := fun w' => w'.cell? ⟨bn, 0, none⟩ = some (.int .i64 t) ∧ w'.cell? ⟨bn, 1, none⟩ = some (.int .i64 s) ∧ w'.cell? ⟨bn, 2, none⟩ = some (.int .i64 al) ∧ w'.cell? ⟨bn, 3, none⟩ = some (.int .i64 o) ∧ w'.cell? ⟨bn, 4, none⟩ = some (.bool true) ∧ w'.cell? ⟨bn, 5, none⟩ = some (.int .i64 sh) ∧ w'.cell? ⟨gf, pn, none⟩ = some (.int .i64 FP)) (by kernel_rfl) (by ((try dsimp only); first | (with_reducible assumption) | ((repeat' (with_reducible apply And.intro)) <;> go_simp))) (fun hH0 => ?_)
          refine wpAnyH_take (i := 0) (oi := { dst := some 32, op := Go.Op.fieldAddr 54 (Go.Operand.tmp 9) 2, type := 0, pos := "ref.go:96", after := #[], guard := none }) (v := ?_) rfl (by kernel_rfl) (by kernel_rfl) (by kernel_rfl) (fun _ _ _ h => h) (Or.inl ⟨by rfl, ?_⟩) (by assumption) ?_
          rotate_left
          · (intro w hSw; (try dsimp only at hSw); go_simp) <;> (with_reducible rfl)
          simp only [Act.put, List.setIfInBounds_toArray, List.set_cons_zero, List.set_cons_succ]
          refine wpAnyH_take (i := 1) (oi := { dst := some 33, op := Go.Op.load 4 (Go.Operand.tmp 32), type := 4, pos := "ref.go:96", after := #[{ on := 0, ground := Go.Ground.data }], guard := none }) (v := ?_) rfl (by kernel_rfl) (by kernel_rfl) (by kernel_rfl) (fun _ _ _ h => h) (Or.inl ⟨by rfl, ?_⟩) (by assumption) ?_
          rotate_left
          · (intro w hSw; (try dsimp only at hSw); go_simp) <;> (with_reducible rfl)
          simp only [Act.put, List.setIfInBounds_toArray, List.set_cons_zero, List.set_cons_succ]
          refine wpAnyH_take (i := 2) (oi := { dst := some 34, op := Go.Op.unOp Go.UnOp.not 4 (Go.Operand.tmp 33), type := 4, pos := "ref.go:96", after := #[{ on := 1, ground := Go.Ground.data }], guard := none }) (v := ?_) rfl (by kernel_rfl) (by kernel_rfl) (by kernel_rfl) (fun _ _ _ h => h) (Or.inl ⟨by rfl, ?_⟩) (by assumption) ?_
          rotate_left
          · (intro w hSw; (try dsimp only at hSw); go_simp) <;> (with_reducible rfl)
          simp only [Act.put, List.setIfInBounds_toArray, List.set_cons_zero, List.set_cons_succ]
          refine wpAnyH_take (i := 3) (oi := { dst := some 35, op := Go.Op.move (Go.Operand.tmp 34), type := 4, pos := "ref.go:96", after := #[{ on := 2, ground := Go.Ground.data }], guard := none }) (v := ?_) rfl (by kernel_rfl) (by kernel_rfl) (by kernel_rfl) (fun _ _ _ h => h) (Or.inl ⟨by rfl, ?_⟩) (by assumption) ?_
          rotate_left
          · (intro w hSw; (try dsimp only at hSw); go_simp) <;> (with_reducible rfl)
          simp only [Act.put, List.setIfInBounds_toArray, List.set_cons_zero, List.set_cons_succ]
          refine wpAnyH_take (i := 4) (oi := { dst := some 36, op := Go.Op.fieldAddr 54 (Go.Operand.tmp 9) 1, type := 0, pos := "ref.go:96", after := #[{ on := 3, ground := Go.Ground.guard }], guard := some (3, true) }) (v := undef) rfl (by kernel_rfl) (by kernel_rfl) (by kernel_rfl) (fun _ _ _ h => h) (Or.inr ⟨by rfl, rfl⟩) (by assumption) ?_
          simp only [Act.put, List.setIfInBounds_toArray, List.set_cons_zero, List.set_cons_succ]
          refine wpAnyH_take (i := 5) (oi := { dst := some 37, op := Go.Op.fieldAddr 52 (Go.Operand.tmp 36) 1, type := 0, pos := "ref.go:96", after := #[{ on := 4, ground := Go.Ground.data }, { on := 3, ground := Go.Ground.guard }], guard := some (3, true) }) (v := undef) rfl (by kernel_rfl) (by kernel_rfl) (by kernel_rfl) (fun _ _ _ h => h) (Or.inr ⟨by rfl, rfl⟩) (by assumption) ?_
          simp only [Act.put, List.setIfInBounds_toArray, List.set_cons_zero, List.set_cons_succ]
          refine wpAnyH_take (i := 6) (oi := { dst := some 38, op := Go.Op.load 3 (Go.Operand.tmp 37), type := 3, pos := "ref.go:96", after := #[{ on := 5, ground := Go.Ground.data }, { on := 3, ground := Go.Ground.guard }], guard := some (3, true) }) (v := undef) rfl (by kernel_rfl) (by kernel_rfl) (by kernel_rfl) (fun _ _ _ h => h) (Or.inr ⟨by rfl, rfl⟩) (by assumption) ?_
          simp only [Act.put, List.setIfInBounds_toArray, List.set_cons_zero, List.set_cons_succ]
          refine wpAnyH_take (i := 7) (oi := { dst := some 39, op := Go.Op.move (Go.Operand.tmp 6), type := 32, pos := "ref.go:96", after := #[{ on := 3, ground := Go.Ground.guard }], guard := some (3, true) }) (v := undef) rfl (by kernel_rfl) (by kernel_rfl) (by kernel_rfl) (fun _ _ _ h => h) (Or.inr ⟨by rfl, rfl⟩) (by assumption) ?_
          simp only [Act.put, List.setIfInBounds_toArray, List.set_cons_zero, List.set_cons_succ]
          refine wpAnyH_take (i := 8) (oi := { dst := some 40, op := Go.Op.move (Go.Operand.tmp 10), type := 3, pos := "ref.go:96", after := #[{ on := 3, ground := Go.Ground.guard }], guard := some (3, true) }) (v := undef) rfl (by kernel_rfl) (by kernel_rfl) (by kernel_rfl) (fun _ _ _ h => h) (Or.inr ⟨by rfl, rfl⟩) (by assumption) ?_
          simp only [Act.put, List.setIfInBounds_toArray, List.set_cons_zero, List.set_cons_succ]
          refine wpAnyH_take (i := 9) (oi := { dst := some 41, op := Go.Op.indexAddr 32 (Go.Operand.tmp 39) (Go.Operand.tmp 40), type := 0, pos := "ref.go:96", after := #[{ on := 7, ground := Go.Ground.data }, { on := 8, ground := Go.Ground.data }, { on := 3, ground := Go.Ground.guard }], guard := some (3, true) }) (v := undef) rfl (by kernel_rfl) (by kernel_rfl) (by kernel_rfl) (fun _ _ _ h => h) (Or.inr ⟨by rfl, rfl⟩) (by assumption) ?_
          simp only [Act.put, List.setIfInBounds_toArray, List.set_cons_zero, List.set_cons_succ]
          refine wpAnyH_take (i := 10) (oi := { dst := some 42, op := Go.Op.load 3 (Go.Operand.tmp 41), type := 3, pos := "ref.go:96", after := #[{ on := 9, ground := Go.Ground.data }, { on := 3, ground := Go.Ground.guard }], guard := some (3, true) }) (v := undef) rfl (by kernel_rfl) (by kernel_rfl) (by kernel_rfl) (fun _ _ _ h => h) (Or.inr ⟨by rfl, rfl⟩) (by assumption) ?_
          simp only [Act.put, List.setIfInBounds_toArray, List.set_cons_zero, List.set_cons_succ]
          refine wpAnyH_take (i := 11) (oi := { dst := some 43, op := Go.Op.binOp Go.BinOp.neq 3 (Go.Operand.tmp 38) (Go.Operand.tmp 42) 3, type := 4, pos := "ref.go:96", after := #[{ on := 6, ground := Go.Ground.data }, { on := 10, ground := Go.Ground.data }, { on := 3, ground := Go.Ground.guard }], guard := some (3, true) }) (v := undef) rfl (by kernel_rfl) (by kernel_rfl) (by kernel_rfl) (fun _ _ _ h => h) (Or.inr ⟨by rfl, rfl⟩) (by assumption) ?_
          simp only [Act.put, List.setIfInBounds_toArray, List.set_cons_zero, List.set_cons_succ]
          refine wpAnyH_take (i := 12) (oi := { dst := some 44, op := Go.Op.pick (Go.Operand.tmp 35) (Go.Operand.tmp 43) (Go.Operand.const (Go.Value.bool false)), type := 4, pos := "ref.go:96", after := #[{ on := 3, ground := Go.Ground.data }, { on := 11, ground := Go.Ground.data }], guard := none }) (v := ?_) rfl (by kernel_rfl) (by kernel_rfl) (by kernel_rfl) (fun _ _ _ h => h) (Or.inl ⟨by rfl, ?_⟩) (by assumption) ?_
          rotate_left
          · (intro w hSw; (try dsimp only at hSw); go_simp) <;> (with_reducible rfl)
          simp only [Act.put, List.setIfInBounds_toArray, List.set_cons_zero, List.set_cons_succ]
          refine wpAnyH_take (i := 13) (oi := { dst := some 45, op := Go.Op.move (Go.Operand.tmp 44), type := 4, pos := "ref.go:96", after := #[{ on := 12, ground := Go.Ground.data }, { on := 3, ground := Go.Ground.chain }], guard := none }) (v := ?_) rfl (by kernel_rfl) (by kernel_rfl) (by kernel_rfl) (fun _ _ _ h => h) (Or.inl ⟨by rfl, ?_⟩) (by assumption) ?_
          rotate_left
          · (intro w hSw; (try dsimp only at hSw); go_simp) <;> (with_reducible rfl)
          simp only [Act.put, List.setIfInBounds_toArray, List.set_cons_zero, List.set_cons_succ]
          refine wpAnyH_take (i := 14) (oi := { dst := some 46, op := Go.Op.move (Go.Operand.tmp 1), type := 22, pos := "ref.go:96", after := #[{ on := 13, ground := Go.Ground.guard }], guard := some (13, false) }) (v := ?_) rfl (by kernel_rfl) (by kernel_rfl) (by kernel_rfl) (fun _ _ _ h => h) (Or.inl ⟨by rfl, ?_⟩) (by assumption) ?_
          rotate_left
          · (intro w hSw; (try dsimp only at hSw); go_simp) <;> (with_reducible rfl)
          simp only [Act.put, List.setIfInBounds_toArray, List.set_cons_zero, List.set_cons_succ]
          refine wpAnyH_take (i := 15) (oi := { dst := some 47, op := Go.Op.move (Go.Operand.tmp 8), type := 3, pos := "ref.go:96", after := #[{ on := 13, ground := Go.Ground.guard }], guard := some (13, false) }) (v := ?_) rfl (by kernel_rfl) (by kernel_rfl) (by kernel_rfl) (fun _ _ _ h => h) (Or.inl ⟨by rfl, ?_⟩) (by assumption) ?_
          rotate_left
          · (intro w hSw; (try dsimp only at hSw); go_simp) <;> (with_reducible rfl)
          simp only [Act.put, List.setIfInBounds_toArray, List.set_cons_zero, List.set_cons_succ]
          refine wpAnyH_ready (rs := [16]) (by kernel_rfl) (by simp) ?_
          refine (AllReadyH.cons (o := { dst := some 48, op := Go.Op.call { callee := Go.Callee.value (Go.Operand.func 22), args := #[Go.Operand.tmp 46, Go.Operand.tmp 47], argTypes := #[22, 3] }, type := 4, pos := "ref.go:96", after := #[{ on := 14, ground := Go.Ground.data }, { on := 15, ground := Go.Ground.data }, { on := 13, ground := Go.Ground.chain }, { on := 13, ground := Go.Ground.guard }], guard := some (13, false) }) rfl (fun Kc hKc => ?_) AllReadyH.nil)
          go_simp
          go_at_call 22
          refine (rClash_any _ l l.length c i _ _ rfl (by omega) (H1.out.later (by (repeat' (first | (with_reducible exact G.refl _) | (with_reducible assumption) | (with_reducible refine G.drewN ?_ _) | (with_reducible refine G.drew ?_) | (with_reducible refine G.alloc ?_ _) | (with_reducible refine G.setCell ?_ (by first | (with_reducible exact Nat.le_refl _) | (simp; done) | (simp; omega) | omega) _) | (with_reducible refine G.trans ?_ (by assumption)))))) HP.out).mono ?_
          rintro e W4 ⟨rfl, hG5⟩
          rw [← hC.out]
          have gq : G W1 W4 := G.trans (by (repeat' (first | (with_reducible exact G.refl _) | (with_reducible refine G.drewN ?_ _) | (with_reducible refine G.drew ?_) | (with_reducible refine G.alloc ?_ _)))) hG5
          obtain ⟨v0, v1, v2, v3, v4, v5⟩ := hN.out.later gq
          dsimp only at v0 v1 v2 v3 v4 v5
          simp only [Nat.zero_add] at v1 v2 v3 v4 v5
          have zc' := gq.at zc1
          refine hKc.out _ _ (by ((try dsimp only); first | (with_reducible assumption) | ((repeat' (with_reducible apply And.intro)) <;> go_simp))) (fun hH1 => ?_)
          clear hKc Kc hH0
          clear v0 v1 v2 v3 v4 v5 zc' hG5
          refine wpAnyH_take (i := 17) (oi := { dst := some 49, op := Go.Op.pick (Go.Operand.tmp 45) (Go.Operand.const (Go.Value.bool true)) (Go.Operand.tmp 48), type := 4, pos := "ref.go:96", after := #[{ on := 13, ground := Go.Ground.data }, { on := 16, ground := Go.Ground.data }], guard := none }) (v := ?_) rfl (by kernel_rfl) (by kernel_rfl) (by kernel_rfl) (fun _ _ _ h => h) (Or.inl ⟨by rfl, ?_⟩) (by assumption) ?_
          rotate_left
          · (intro w hSw; (try dsimp only at hSw); go_simp) <;> (with_reducible rfl)
          simp only [Act.put, List.setIfInBounds_toArray, List.set_cons_zero, List.set_cons_succ]
          refine wpAnyH_take (i := 18) (oi := { dst := some 11, op := Go.Op.assign (Go.Operand.tmp 49), type := 4, pos := "ref.go:96", after := #[{ on := 17, ground := Go.Ground.data }, { on := 16, ground := Go.Ground.chain }, { on := 0, ground := Go.Ground.phase }, { on := 1, ground := Go.Ground.phase }, { on := 2, ground := Go.Ground.phase }, { on := 3, ground := Go.Ground.phase }, { on := 4, ground := Go.Ground.phase }, { on := 5, ground := Go.Ground.phase }, { on := 6, ground := Go.Ground.phase }, { on := 7, ground := Go.Ground.phase }, { on := 8, ground := Go.Ground.phase }, { on := 9, ground := Go.Ground.phase }, { on := 10, ground := Go.Ground.phase }, { on := 11, ground := Go.Ground.phase }, { on := 12, ground := Go.Ground.phase }, { on := 13, ground := Go.Ground.phase }, { on := 14, ground := Go.Ground.phase }, { on := 15, ground := Go.Ground.phase }, { on := 16, ground := Go.Ground.phase }, { on := 17, ground := Go.Ground.phase }], guard := none }) (v := ?_) rfl (by kernel_rfl) (by kernel_rfl) (by kernel_rfl) (fun _ _ _ h => h) (Or.inl ⟨by rfl, ?_⟩) (by assumption) ?_
          rotate_left
          · (intro w hSw; (try dsimp only at hSw); go_simp) <;> (with_reducible rfl)
          simp only [Act.put, List.setIfInBounds_toArray, List.set_cons_zero, List.set_cons_succ]
          refine wpAnyH_done (by kernel_rfl) ?_ _
          have g4 := Lib.hid ((gr.trans gW1).trans gq)
          have R4 := Lib.hid (hR.out.later (gW1.trans gq))
          have A4 := Lib.hid (hA.out.later (gW1.trans gq))
          obtain ⟨v0, v1, v2, v3, v4, v5⟩ := hN.out.later gq
          dsimp only at v0 v1 v2 v3 v4 v5
          simp only [Nat.zero_add] at v1 v2 v3 v4 v5
          have RL := Lib.hid (Row.ltN R4.out)
          have RNE := Lib.hid (Row.ne R4.out ltf)
          have hb4 : base ≤ W4.heap.size := by have := gq.size; have := hb1.out; omega
          have l4 : gf < W4.heap.size := by omega
          obtain ⟨f4c, f4f⟩ := A4.out pn p2
          rw [← HPN.out] at f4c
          have hw4 : w.heap.size ≤ W4.heap.size := g4.out.size
          have NZ := Lib.hid (show ¬ (al + 3 = 0) from fun e => by have := HOK.out _ (List.mem_of_getElem? HP.out); obtain ⟨_, _, k, _⟩ := this; unfold AOk at k; dsimp only at k; omega)
          clear hR hA gr hN gW1 gq hbs u0 u1 u2 u3 u4 u5 zc1
          skip
          go_wp2_with (at_builtin; refine wpList_append_own _ rfl _ _ 31 rfl base 40 i0 (.agg #[.int .i64 0, .bool false]) 2 16 Tryd.underlying31 hi hz0 hz1 hz2 rfl (by decide) v M.length (M.flatMap mkE2) rfl (show Row mkE2 40 2 base _ v M from by repeat' (first | (with_reducible exact R4.out) | (with_reducible refine Row.al ?_ _) | (with_reducible refine Row.farN ?_ (by first | exact RL.out | exact RNE.out) _ _))) ⟨W4.heap.size + 1, 0, none⟩ 1 1 [.int .i64 (al + 3), .bool false] rfl rfl (new_add _ _ [.int .i64 (al + 3), .bool false] _ (by simp [go_sem])) (by simp [Value.oneCell']) (by unfold maxLen; omega) (by omega) (by simp [go_sem]; omega) ?_; intro v' w6 hown' hgrow _)
          have RN := Lib.hid (Row.more (enc := mkE2) (M := M) (x := (al + 3, false)) hown')
          have AN : Hid (Arr w6 gf (upd F P al)) := Lib.hid (Arr.grown (row := v.ownBlock) (by repeat' (first | (with_reducible exact A4.out) | (with_reducible refine Arr.al ?_ _) | (with_reducible refine Arr.setN ?_ HPN.out p2 _) | (with_reducible refine Arr.farC ?_ (by omega) _ _))) hgrow RNE.out)
          have gN : G w w6 := by
            refine Below.grown (B := w.heap.size) ?_ hgrow ?_ (fun k hk => by have := Row.own R4.out k hk; omega)
            · have gw4 := g4.out
              show G w _
              (repeat' (first | (with_reducible exact G.refl _) | (with_reducible assumption) | (with_reducible refine G.drewN ?_ _) | (with_reducible refine G.drew ?_) | (with_reducible refine G.alloc ?_ _) | (with_reducible refine G.setCell ?_ (by first | (with_reducible exact Nat.le_refl _) | (simp; done) | (simp; omega) | omega) _) | (with_reducible refine G.trans ?_ (by assumption))))
            · simp [go_sem]; omega
          have hsN : base ≤ w6.heap.size := by have := hgrow.size; simp [go_sem] at this; omega
          have hk : mK D ⟨t, s, al, o, true, sh⟩ = al + 3 := by rw [HDE.out]; exact if_neg (fun k => by cases k.1)
          have hpb : mP D ⟨t, s, al, o, true, sh⟩ = false := by rw [HDE.out]; rfl
          have h1 := HD2.out _ _ hk hpb
          have h2 := HDF2.out _ hk
          rw [if_neg NZ.out] at h1 h2
          go_roundg (l.length - (i + 1))
          case measure => have := HQ.out; omega
          case rel => exact ⟨i + 1, v', M ++ [(al + 3, false)], _, rfl, by first | rfl | simp, rfl, by omega, by rw [List.length_append, HM.out]; rfl, Lib.hid h1, Lib.hid h2, RN, AN, gN, hsN⟩
        · obtain rfl : C = false := by simpa using hC1
          clear hC1
          have HDE := Lib.hid (show D = false by rw [HDC.out]; simp)
          go_wp2_with fail
          refine (rIndex_any s o _ HPOS.out).mono ?_
          rintro e w4 ⟨rfl, rfl⟩
          rw [← hP.out]
          go_wp2_with fail
          have gW1 : G wr (wr.alloc (.cells #[.int .i64 t, .int .i64 s, .int .i64 al, .int .i64 o, .bool true, .int .i64 sh] 54)) := by (repeat' (first | (with_reducible exact G.refl _) | (with_reducible assumption) | (with_reducible refine G.drewN ?_ _) | (with_reducible refine G.drew ?_) | (with_reducible refine G.alloc ?_ _) | (with_reducible refine G.setCell ?_ (by first | (with_reducible exact Nat.le_refl _) | (simp; done) | (simp; omega) | omega) _) | (with_reducible refine G.trans ?_ (by assumption))))
          have hN : Hid (Nt6 (wr.alloc (.cells #[.int .i64 t, .int .i64 s, .int .i64 al, .int .i64 o, .bool true, .int .i64 sh] 54)) wr.heap.size 0 ⟨t, s, al, o, true, sh⟩) := Lib.hid (six_at (W := wr) rfl (G.refl _))
          have zc1 := gW1.at zc6
          obtain ⟨u0, u1, u2, u3, u4, u5⟩ := hN.out
          dsimp only at u0 u1 u2 u3 u4 u5
          simp only [Nat.zero_add] at u1 u2 u3 u4 u5
          have hb1 := Lib.hid (show base ≤ (wr.alloc (.cells #[.int .i64 t, .int .i64 s, .int .i64 al, .int .i64 o, .bool true, .int .i64 sh] 54)).heap.size by have := gW1.size; omega)
          generalize wr.alloc (.cells #[.int .i64 t, .int .i64 s, .int .i64 al, .int .i64 o, .bool true, .int .i64 sh] 54) = W1 at *
          generalize wr.heap.size = bn at *
          refine wp_region_held_drew (S := fun w' => w'.cell? ⟨bn, 0, none⟩ = some (.int .i64 t) ∧ w'.cell? ⟨bn, 1, none⟩ = some (.int .i64 s) ∧ w'.cell? ⟨bn, 2, none⟩ = some (.int .i64 al) ∧ w'.cell? ⟨bn, 3, none⟩ = some (.int .i64 o) ∧ w'.cell? ⟨bn, 4, none⟩ = some (.bool true) ∧ w'.cell? ⟨bn, 5, none⟩ = some (.int .i64 sh) ∧ w'.cell? ⟨gf, pn, none⟩ = some (.int .i64 FP)) (by kernel_rfl) (by ((try dsimp only); first | (with_reducible assumption) | ((repeat' (with_reducible apply And.intro)) <;> go_simp))) (fun hH0 => ?_)
          refine wpAnyH_take (i := 0) (oi := { dst := some 32, op := Go.Op.fieldAddr 54 (Go.Operand.tmp 9) 2, type := 0, pos := "ref.go:96", after := #[], guard := none }) (v := ?_) rfl (by kernel_rfl) (by kernel_rfl) (by kernel_rfl) (fun _ _ _ h => h) (Or.inl ⟨by rfl, ?_⟩) (by assumption) ?_
          rotate_left
          · (intro w hSw; (try dsimp only at hSw); go_simp) <;> (with_reducible rfl)
          simp only [Act.put, List.setIfInBounds_toArray, List.set_cons_zero, List.set_cons_succ]
          refine wpAnyH_take (i := 1) (oi := { dst := some 33, op := Go.Op.load 4 (Go.Operand.tmp 32), type := 4, pos := "ref.go:96", after := #[{ on := 0, ground := Go.Ground.data }], guard := none }) (v := ?_) rfl (by kernel_rfl) (by kernel_rfl) (by kernel_rfl) (fun _ _ _ h => h) (Or.inl ⟨by rfl, ?_⟩) (by assumption) ?_
          rotate_left
          · (intro w hSw; (try dsimp only at hSw); go_simp) <;> (with_reducible rfl)
          simp only [Act.put, List.setIfInBounds_toArray, List.set_cons_zero, List.set_cons_succ]
          refine wpAnyH_take (i := 2) (oi := { dst := some 34, op := Go.Op.unOp Go.UnOp.not 4 (Go.Operand.tmp 33), type := 4, pos := "ref.go:96", after := #[{ on := 1, ground := Go.Ground.data }], guard := none }) (v := ?_) rfl (by kernel_rfl) (by kernel_rfl) (by kernel_rfl) (fun _ _ _ h => h) (Or.inl ⟨by rfl, ?_⟩) (by assumption) ?_
          rotate_left
          · (intro w hSw; (try dsimp only at hSw); go_simp) <;> (with_reducible rfl)
          simp only [Act.put, List.setIfInBounds_toArray, List.set_cons_zero, List.set_cons_succ]
          refine wpAnyH_take (i := 3) (oi := { dst := some 35, op := Go.Op.move (Go.Operand.tmp 34), type := 4, pos := "ref.go:96", after := #[{ on := 2, ground := Go.Ground.data }], guard := none }) (v := ?_) rfl (by kernel_rfl) (by kernel_rfl) (by kernel_rfl) (fun _ _ _ h => h) (Or.inl ⟨by rfl, ?_⟩) (by assumption) ?_
          rotate_left
          · (intro w hSw; (try dsimp only at hSw); go_simp) <;> (with_reducible rfl)
          simp only [Act.put, List.setIfInBounds_toArray, List.set_cons_zero, List.set_cons_succ]
          refine wpAnyH_take (i := 4) (oi := { dst := some 36, op := Go.Op.fieldAddr 54 (Go.Operand.tmp 9) 1, type := 0, pos := "ref.go:96", after := #[{ on := 3, ground := Go.Ground.guard }], guard := some (3, true) }) (v := undef) rfl (by kernel_rfl) (by kernel_rfl) (by kernel_rfl) (fun _ _ _ h => h) (Or.inr ⟨by rfl, rfl⟩) (by assumption) ?_
          simp only [Act.put, List.setIfInBounds_toArray, List.set_cons_zero, List.set_cons_succ]
          refine wpAnyH_take (i := 5) (oi := { dst := some 37, op := Go.Op.fieldAddr 52 (Go.Operand.tmp 36) 1, type := 0, pos := "ref.go:96", after := #[{ on := 4, ground := Go.Ground.data }, { on := 3, ground := Go.Ground.guard }], guard := some (3, true) }) (v := undef) rfl (by kernel_rfl) (by kernel_rfl) (by kernel_rfl) (fun _ _ _ h => h) (Or.inr ⟨by rfl, rfl⟩) (by assumption) ?_
          simp only [Act.put, List.setIfInBounds_toArray, List.set_cons_zero, List.set_cons_succ]
          refine wpAnyH_take (i := 6) (oi := { dst := some 38, op := Go.Op.load 3 (Go.Operand.tmp 37), type := 3, pos := "ref.go:96", after := #[{ on := 5, ground := Go.Ground.data }, { on := 3, ground := Go.Ground.guard }], guard := some (3, true) }) (v := undef) rfl (by kernel_rfl) (by kernel_rfl) (by kernel_rfl) (fun _ _ _ h => h) (Or.inr ⟨by rfl, rfl⟩) (by assumption) ?_
          simp only [Act.put, List.setIfInBounds_toArray, List.set_cons_zero, List.set_cons_succ]
          refine wpAnyH_take (i := 7) (oi := { dst := some 39, op := Go.Op.move (Go.Operand.tmp 6), type := 32, pos := "ref.go:96", after := #[{ on := 3, ground := Go.Ground.guard }], guard := some (3, true) }) (v := undef) rfl (by kernel_rfl) (by kernel_rfl) (by kernel_rfl) (fun _ _ _ h => h) (Or.inr ⟨by rfl, rfl⟩) (by assumption) ?_
          simp only [Act.put, List.setIfInBounds_toArray, List.set_cons_zero, List.set_cons_succ]
          refine wpAnyH_take (i := 8) (oi := { dst := some 40, op := Go.Op.move (Go.Operand.tmp 10), type := 3, pos := "ref.go:96", after := #[{ on := 3, ground := Go.Ground.guard }], guard := some (3, true) }) (v := undef) rfl (by kernel_rfl) (by kernel_rfl) (by kernel_rfl) (fun _ _ _ h => h) (Or.inr ⟨by rfl, rfl⟩) (by assumption) ?_
          simp only [Act.put, List.setIfInBounds_toArray, List.set_cons_zero, List.set_cons_succ]
          refine wpAnyH_take (i := 9) (oi := { dst := some 41, op := Go.Op.indexAddr 32 (Go.Operand.tmp 39) (Go.Operand.tmp 40), type := 0, pos := "ref.go:96", after := #[{ on := 7, ground := Go.Ground.data }, { on := 8, ground := Go.Ground.data }, { on := 3, ground := Go.Ground.guard }], guard := some (3, true) }) (v := undef) rfl (by kernel_rfl) (by kernel_rfl) (by kernel_rfl) (fun _ _ _ h => h) (Or.inr ⟨by rfl, rfl⟩) (by assumption) ?_
          simp only [Act.put, List.setIfInBounds_toArray, List.set_cons_zero, List.set_cons_succ]
          refine wpAnyH_take (i := 10) (oi := { dst := some 42, op := Go.Op.load 3 (Go.Operand.tmp 41), type := 3, pos := "ref.go:96", after := #[{ on := 9, ground := Go.Ground.data }, { on := 3, ground := Go.Ground.guard }], guard := some (3, true) }) (v := undef) rfl (by kernel_rfl) (by kernel_rfl) (by kernel_rfl) (fun _ _ _ h => h) (Or.inr ⟨by rfl, rfl⟩) (by assumption) ?_
          simp only [Act.put, List.setIfInBounds_toArray, List.set_cons_zero, List.set_cons_succ]
          refine wpAnyH_take (i := 11) (oi := { dst := some 43, op := Go.Op.binOp Go.BinOp.neq 3 (Go.Operand.tmp 38) (Go.Operand.tmp 42) 3, type := 4, pos := "ref.go:96", after := #[{ on := 6, ground := Go.Ground.data }, { on := 10, ground := Go.Ground.data }, { on := 3, ground := Go.Ground.guard }], guard := some (3, true) }) (v := undef) rfl (by kernel_rfl) (by kernel_rfl) (by kernel_rfl) (fun _ _ _ h => h) (Or.inr ⟨by rfl, rfl⟩) (by assumption) ?_
          simp only [Act.put, List.setIfInBounds_toArray, List.set_cons_zero, List.set_cons_succ]
          refine wpAnyH_take (i := 12) (oi := { dst := some 44, op := Go.Op.pick (Go.Operand.tmp 35) (Go.Operand.tmp 43) (Go.Operand.const (Go.Value.bool false)), type := 4, pos := "ref.go:96", after := #[{ on := 3, ground := Go.Ground.data }, { on := 11, ground := Go.Ground.data }], guard := none }) (v := ?_) rfl (by kernel_rfl) (by kernel_rfl) (by kernel_rfl) (fun _ _ _ h => h) (Or.inl ⟨by rfl, ?_⟩) (by assumption) ?_
          rotate_left
          · (intro w hSw; (try dsimp only at hSw); go_simp) <;> (with_reducible rfl)
          simp only [Act.put, List.setIfInBounds_toArray, List.set_cons_zero, List.set_cons_succ]
          refine wpAnyH_take (i := 13) (oi := { dst := some 45, op := Go.Op.move (Go.Operand.tmp 44), type := 4, pos := "ref.go:96", after := #[{ on := 12, ground := Go.Ground.data }, { on := 3, ground := Go.Ground.chain }], guard := none }) (v := ?_) rfl (by kernel_rfl) (by kernel_rfl) (by kernel_rfl) (fun _ _ _ h => h) (Or.inl ⟨by rfl, ?_⟩) (by assumption) ?_
          rotate_left
          · (intro w hSw; (try dsimp only at hSw); go_simp) <;> (with_reducible rfl)
          simp only [Act.put, List.setIfInBounds_toArray, List.set_cons_zero, List.set_cons_succ]
          refine wpAnyH_take (i := 14) (oi := { dst := some 46, op := Go.Op.move (Go.Operand.tmp 1), type := 22, pos := "ref.go:96", after := #[{ on := 13, ground := Go.Ground.guard }], guard := some (13, false) }) (v := ?_) rfl (by kernel_rfl) (by kernel_rfl) (by kernel_rfl) (fun _ _ _ h => h) (Or.inl ⟨by rfl, ?_⟩) (by assumption) ?_
          rotate_left
          · (intro w hSw; (try dsimp only at hSw); go_simp) <;> (with_reducible rfl)
          simp only [Act.put, List.setIfInBounds_toArray, List.set_cons_zero, List.set_cons_succ]
          refine wpAnyH_take (i := 15) (oi := { dst := some 47, op := Go.Op.move (Go.Operand.tmp 8), type := 3, pos := "ref.go:96", after := #[{ on := 13, ground := Go.Ground.guard }], guard := some (13, false) }) (v := ?_) rfl (by kernel_rfl) (by kernel_rfl) (by kernel_rfl) (fun _ _ _ h => h) (Or.inl ⟨by rfl, ?_⟩) (by assumption) ?_
          rotate_left
          · (intro w hSw; (try dsimp only at hSw); go_simp) <;> (with_reducible rfl)
          simp only [Act.put, List.setIfInBounds_toArray, List.set_cons_zero, List.set_cons_succ]
          refine wpAnyH_ready (rs := [16]) (by kernel_rfl) (by simp) ?_
          refine (AllReadyH.cons (o := { dst := some 48, op := Go.Op.call { callee := Go.Callee.value (Go.Operand.func 22), args := #[Go.Operand.tmp 46, Go.Operand.tmp 47], argTypes := #[22, 3] }, type := 4, pos := "ref.go:96", after := #[{ on := 14, ground := Go.Ground.data }, { on := 15, ground := Go.Ground.data }, { on := 13, ground := Go.Ground.chain }, { on := 13, ground := Go.Ground.guard }], guard := some (13, false) }) rfl (fun Kc hKc => ?_) AllReadyH.nil)
          go_simp
          go_at_call 22
          refine (rClash_any _ l l.length c i _ _ rfl (by omega) (H1.out.later (by (repeat' (first | (with_reducible exact G.refl _) | (with_reducible assumption) | (with_reducible refine G.drewN ?_ _) | (with_reducible refine G.drew ?_) | (with_reducible refine G.alloc ?_ _) | (with_reducible refine G.setCell ?_ (by first | (with_reducible exact Nat.le_refl _) | (simp; done) | (simp; omega) | omega) _) | (with_reducible refine G.trans ?_ (by assumption)))))) HP.out).mono ?_
          rintro e W4 ⟨rfl, hG5⟩
          rw [← hC.out]
          have gq : G W1 W4 := G.trans (by (repeat' (first | (with_reducible exact G.refl _) | (with_reducible refine G.drewN ?_ _) | (with_reducible refine G.drew ?_) | (with_reducible refine G.alloc ?_ _)))) hG5
          obtain ⟨v0, v1, v2, v3, v4, v5⟩ := hN.out.later gq
          dsimp only at v0 v1 v2 v3 v4 v5
          simp only [Nat.zero_add] at v1 v2 v3 v4 v5
          have zc' := gq.at zc1
          refine hKc.out _ _ (by ((try dsimp only); first | (with_reducible assumption) | ((repeat' (with_reducible apply And.intro)) <;> go_simp))) (fun hH1 => ?_)
          clear hKc Kc hH0
          clear v0 v1 v2 v3 v4 v5 zc' hG5
          refine wpAnyH_take (i := 17) (oi := { dst := some 49, op := Go.Op.pick (Go.Operand.tmp 45) (Go.Operand.const (Go.Value.bool true)) (Go.Operand.tmp 48), type := 4, pos := "ref.go:96", after := #[{ on := 13, ground := Go.Ground.data }, { on := 16, ground := Go.Ground.data }], guard := none }) (v := ?_) rfl (by kernel_rfl) (by kernel_rfl) (by kernel_rfl) (fun _ _ _ h => h) (Or.inl ⟨by rfl, ?_⟩) (by assumption) ?_
          rotate_left
          · (intro w hSw; (try dsimp only at hSw); go_simp) <;> (with_reducible rfl)
          simp only [Act.put, List.setIfInBounds_toArray, List.set_cons_zero, List.set_cons_succ]
          refine wpAnyH_take (i := 18) (oi := { dst := some 11, op := Go.Op.assign (Go.Operand.tmp 49), type := 4, pos := "ref.go:96", after := #[{ on := 17, ground := Go.Ground.data }, { on := 16, ground := Go.Ground.chain }, { on := 0, ground := Go.Ground.phase }, { on := 1, ground := Go.Ground.phase }, { on := 2, ground := Go.Ground.phase }, { on := 3, ground := Go.Ground.phase }, { on := 4, ground := Go.Ground.phase }, { on := 5, ground := Go.Ground.phase }, { on := 6, ground := Go.Ground.phase }, { on := 7, ground := Go.Ground.phase }, { on := 8, ground := Go.Ground.phase }, { on := 9, ground := Go.Ground.phase }, { on := 10, ground := Go.Ground.phase }, { on := 11, ground := Go.Ground.phase }, { on := 12, ground := Go.Ground.phase }, { on := 13, ground := Go.Ground.phase }, { on := 14, ground := Go.Ground.phase }, { on := 15, ground := Go.Ground.phase }, { on := 16, ground := Go.Ground.phase }, { on := 17, ground := Go.Ground.phase }], guard := none }) (v := ?_) rfl (by kernel_rfl) (by kernel_rfl) (by kernel_rfl) (fun _ _ _ h => h) (Or.inl ⟨by rfl, ?_⟩) (by assumption) ?_
          rotate_left
          · (intro w hSw; (try dsimp only at hSw); go_simp) <;> (with_reducible rfl)
          simp only [Act.put, List.setIfInBounds_toArray, List.set_cons_zero, List.set_cons_succ]
          refine wpAnyH_done (by kernel_rfl) ?_ _
          have g4 := Lib.hid ((gr.trans gW1).trans gq)
          have R4 := Lib.hid (hR.out.later (gW1.trans gq))
          have A4 := Lib.hid (hA.out.later (gW1.trans gq))
          obtain ⟨v0, v1, v2, v3, v4, v5⟩ := hN.out.later gq
          dsimp only at v0 v1 v2 v3 v4 v5
          simp only [Nat.zero_add] at v1 v2 v3 v4 v5
          have RL := Lib.hid (Row.ltN R4.out)
          have RNE := Lib.hid (Row.ne R4.out ltf)
          have hb4 : base ≤ W4.heap.size := by have := gq.size; have := hb1.out; omega
          have l4 : gf < W4.heap.size := by omega
          obtain ⟨f4c, f4f⟩ := A4.out pn p2
          rw [← HPN.out] at f4c
          have hw4 : w.heap.size ≤ W4.heap.size := g4.out.size
          have NZ := Lib.hid (show ¬ (al + 3 = 0) from fun e => by have := HOK.out _ (List.mem_of_getElem? HP.out); obtain ⟨_, _, k, _⟩ := this; unfold AOk at k; dsimp only at k; omega)
          clear hR hA gr hN gW1 gq hbs u0 u1 u2 u3 u4 u5 zc1
          by_cases e0 : sh = 0
          · have k1 : (sh == 0) = true := by rw [e0]; rfl
            have k2 : (sh != 0) = false := by simp [bne, k1]
            have HE := Lib.hid e0
            clear e0
            go_wp2_with (at_builtin; refine wpList_append_own _ rfl _ _ 31 rfl base 40 i0 (.agg #[.int .i64 0, .bool false]) 2 16 Tryd.underlying31 hi hz0 hz1 hz2 rfl (by decide) v M.length (M.flatMap mkE2) rfl (show Row mkE2 40 2 base _ v M from by repeat' (first | (with_reducible exact R4.out) | (with_reducible refine Row.al ?_ _) | (with_reducible refine Row.farN ?_ (by first | exact RL.out | exact RNE.out) _ _))) ⟨W4.heap.size + 1, 0, none⟩ 1 1 [.int .i64 (0), .bool false] rfl rfl (new_add _ _ [.int .i64 (0), .bool false] _ (by simp [go_sem])) (by simp [Value.oneCell']) (by unfold maxLen; omega) (by omega) (by simp [go_sem]; omega) ?_; intro v' w6 hown' hgrow _)
            have RN := Lib.hid (Row.more (enc := mkE2) (M := M) (x := (0, false)) hown')
            have AN : Hid (Arr w6 gf (F)) := Lib.hid (Arr.grown (row := v.ownBlock) (by repeat' (first | (with_reducible exact A4.out) | (with_reducible refine Arr.al ?_ _) | (with_reducible refine Arr.setN ?_ HPN.out p2 _) | (with_reducible refine Arr.farC ?_ (by omega) _ _))) hgrow RNE.out)
            have gN : G w w6 := by
              refine Below.grown (B := w.heap.size) ?_ hgrow ?_ (fun k hk => by have := Row.own R4.out k hk; omega)
              · have gw4 := g4.out
                show G w _
                (repeat' (first | (with_reducible exact G.refl _) | (with_reducible assumption) | (with_reducible refine G.drewN ?_ _) | (with_reducible refine G.drew ?_) | (with_reducible refine G.alloc ?_ _) | (with_reducible refine G.setCell ?_ (by first | (with_reducible exact Nat.le_refl _) | (simp; done) | (simp; omega) | omega) _) | (with_reducible refine G.trans ?_ (by assumption))))
              · simp [go_sem]; omega
            have hsN : base ≤ w6.heap.size := by have := hgrow.size; simp [go_sem] at this; omega
            have hk : mK D ⟨t, s, al, o, true, sh⟩ = 0 := by rw [HDE.out]; exact if_pos ⟨rfl, HE.out⟩
            have hpb : mP D ⟨t, s, al, o, true, sh⟩ = false := by rw [HDE.out]; unfold mP; dsimp only; rw [HE.out]; rfl
            have h1 := HD2.out _ _ hk hpb
            have h2 := HDF2.out _ hk
            rw [if_pos rfl] at h1 h2
            go_roundg (l.length - (i + 1))
            case measure => have := HQ.out; omega
            case rel => exact ⟨i + 1, v', M ++ [(0, false)], _, rfl, by first | rfl | simp, rfl, by omega, by rw [List.length_append, HM.out]; rfl, Lib.hid h1, Lib.hid h2, RN, AN, gN, hsN⟩
          · have k1 : (sh == 0) = false := beq_false_of_ne e0
            have k2 : (sh != 0) = true := by simp [bne, k1]
            have HE := Lib.hid e0
            clear e0
            by_cases e2 : sh = 2
            · have k3 : (sh == 2) = true := by rw [e2]; rfl
              have HE2 := Lib.hid e2
              clear e2
              go_wp2_with (at_builtin; refine wpList_append_own _ rfl _ _ 31 rfl base 40 i0 (.agg #[.int .i64 0, .bool false]) 2 16 Tryd.underlying31 hi hz0 hz1 hz2 rfl (by decide) v M.length (M.flatMap mkE2) rfl (show Row mkE2 40 2 base _ v M from by repeat' (first | (with_reducible exact R4.out) | (with_reducible refine Row.al ?_ _) | (with_reducible refine Row.farN ?_ (by first | exact RL.out | exact RNE.out) _ _))) ⟨W4.heap.size + 1, 0, none⟩ 1 1 [.int .i64 (al + 3), .bool true] rfl rfl (new_add _ _ [.int .i64 (al + 3), .bool true] _ (by simp [go_sem])) (by simp [Value.oneCell']) (by unfold maxLen; omega) (by omega) (by simp [go_sem]; omega) ?_; intro v' w6 hown' hgrow _)
              have RN := Lib.hid (Row.more (enc := mkE2) (M := M) (x := (al + 3, true)) hown')
              have AN : Hid (Arr w6 gf (upd F P al)) := Lib.hid (Arr.grown (row := v.ownBlock) (by repeat' (first | (with_reducible exact A4.out) | (with_reducible refine Arr.al ?_ _) | (with_reducible refine Arr.setN ?_ HPN.out p2 _) | (with_reducible refine Arr.farC ?_ (by omega) _ _))) hgrow RNE.out)
              have gN : G w w6 := by
                refine Below.grown (B := w.heap.size) ?_ hgrow ?_ (fun k hk => by have := Row.own R4.out k hk; omega)
                · have gw4 := g4.out
                  show G w _
                  (repeat' (first | (with_reducible exact G.refl _) | (with_reducible assumption) | (with_reducible refine G.drewN ?_ _) | (with_reducible refine G.drew ?_) | (with_reducible refine G.alloc ?_ _) | (with_reducible refine G.setCell ?_ (by first | (with_reducible exact Nat.le_refl _) | (simp; done) | (simp; omega) | omega) _) | (with_reducible refine G.trans ?_ (by assumption))))
                · simp [go_sem]; omega
              have hsN : base ≤ w6.heap.size := by have := hgrow.size; simp [go_sem] at this; omega
              have hk : mK D ⟨t, s, al, o, true, sh⟩ = al + 3 := by rw [HDE.out]; exact if_neg (fun k => HE.out k.2)
              have hpb : mP D ⟨t, s, al, o, true, sh⟩ = true := by rw [HDE.out]; unfold mP; dsimp only; rw [HE2.out]; rfl
              have h1 := HD2.out _ _ hk hpb
              have h2 := HDF2.out _ hk
              rw [if_neg NZ.out] at h1 h2
              go_roundg (l.length - (i + 1))
              case measure => have := HQ.out; omega
              case rel => exact ⟨i + 1, v', M ++ [(al + 3, true)], _, rfl, by first | rfl | simp, rfl, by omega, by rw [List.length_append, HM.out]; rfl, Lib.hid h1, Lib.hid h2, RN, AN, gN, hsN⟩
            · have k3 : (sh == 2) = false := beq_false_of_ne e2
              have HE2 := Lib.hid e2
              clear e2
              go_wp2_with (at_builtin; refine wpList_append_own _ rfl _ _ 31 rfl base 40 i0 (.agg #[.int .i64 0, .bool false]) 2 16 Tryd.underlying31 hi hz0 hz1 hz2 rfl (by decide) v M.length (M.flatMap mkE2) rfl (show Row mkE2 40 2 base _ v M from by repeat' (first | (with_reducible exact R4.out) | (with_reducible refine Row.al ?_ _) | (with_reducible refine Row.farN ?_ (by first | exact RL.out | exact RNE.out) _ _))) ⟨W4.heap.size + 1, 0, none⟩ 1 1 [.int .i64 (al + 3), .bool false] rfl rfl (new_add _ _ [.int .i64 (al + 3), .bool false] _ (by simp [go_sem])) (by simp [Value.oneCell']) (by unfold maxLen; omega) (by omega) (by simp [go_sem]; omega) ?_; intro v' w6 hown' hgrow _)
              have RN := Lib.hid (Row.more (enc := mkE2) (M := M) (x := (al + 3, false)) hown')
              have AN : Hid (Arr w6 gf (upd F P al)) := Lib.hid (Arr.grown (row := v.ownBlock) (by repeat' (first | (with_reducible exact A4.out) | (with_reducible refine Arr.al ?_ _) | (with_reducible refine Arr.setN ?_ HPN.out p2 _) | (with_reducible refine Arr.farC ?_ (by omega) _ _))) hgrow RNE.out)
              have gN : G w w6 := by
                refine Below.grown (B := w.heap.size) ?_ hgrow ?_ (fun k hk => by have := Row.own R4.out k hk; omega)
                · have gw4 := g4.out
                  show G w _
                  (repeat' (first | (with_reducible exact G.refl _) | (with_reducible assumption) | (with_reducible refine G.drewN ?_ _) | (with_reducible refine G.drew ?_) | (with_reducible refine G.alloc ?_ _) | (with_reducible refine G.setCell ?_ (by first | (with_reducible exact Nat.le_refl _) | (simp; done) | (simp; omega) | omega) _) | (with_reducible refine G.trans ?_ (by assumption))))
                · simp [go_sem]; omega
              have hsN : base ≤ w6.heap.size := by have := hgrow.size; simp [go_sem] at this; omega
              have hk : mK D ⟨t, s, al, o, true, sh⟩ = al + 3 := by rw [HDE.out]; exact if_neg (fun k => HE.out k.2)
              have hpb : mP D ⟨t, s, al, o, true, sh⟩ = false := by rw [HDE.out]; unfold mP; dsimp only; rw [decide_eq_false HE2.out]; rfl
              have h1 := HD2.out _ _ hk hpb
              have h2 := HDF2.out _ hk
              rw [if_neg NZ.out] at h1 h2
              go_roundg (l.length - (i + 1))
              case measure => have := HQ.out; omega
              case rel => exact ⟨i + 1, v', M ++ [(al + 3, false)], _, rfl, by first | rfl | simp, rfl, by omega, by rw [List.length_append, HM.out]; rfl, Lib.hid h1, Lib.hid h2, RN, AN, gN, hsN⟩
      · obtain rfl : hd = false := by simpa using hh
        clear hh
        by_cases he : al = FP
        · have ke : (al == FP) = true := by rw [he]; simp
          have ke2 : (al != FP) = false := by simp [bne, ke]
          have HFE := Lib.hid he
          clear he
          by_cases hC1 : C = true
          · obtain rfl : C = true := hC1
            have HDE := Lib.hid (show D = true by rw [HDC.out]; rfl)
            go_wp2_with fail
            refine (rIndex_any s o _ HPOS.out).mono ?_
            rintro e w4 ⟨rfl, rfl⟩
            rw [← hP.out]
            go_wp2_with fail
            have gW1 : G wr (wr.alloc (.cells #[.int .i64 t, .int .i64 s, .int .i64 al, .int .i64 o, .bool false, .int .i64 sh] 54)) := by (repeat' (first | (with_reducible exact G.refl _) | (with_reducible assumption) | (with_reducible refine G.drewN ?_ _) | (with_reducible refine G.drew ?_) | (with_reducible refine G.alloc ?_ _) | (with_reducible refine G.setCell ?_ (by first | (with_reducible exact Nat.le_refl _) | (simp; done) | (simp; omega) | omega) _) | (with_reducible refine G.trans ?_ (by assumption))))
            have hN : Hid (Nt6 (wr.alloc (.cells #[.int .i64 t, .int .i64 s, .int .i64 al, .int .i64 o, .bool false, .int .i64 sh] 54)) wr.heap.size 0 ⟨t, s, al, o, false, sh⟩) := Lib.hid (six_at (W := wr) rfl (G.refl _))
            have zc1 := gW1.at zc6
            obtain ⟨u0, u1, u2, u3, u4, u5⟩ := hN.out
            dsimp only at u0 u1 u2 u3 u4 u5
            simp only [Nat.zero_add] at u1 u2 u3 u4 u5
            have hb1 := Lib.hid (show base ≤ (wr.alloc (.cells #[.int .i64 t, .int .i64 s, .int .i64 al, .int .i64 o, .bool false, .int .i64 sh] 54)).heap.size by have := gW1.size; omega)
            generalize wr.alloc (.cells #[.int .i64 t, .int .i64 s, .int .i64 al, .int .i64 o, .bool false, .int .i64 sh] 54) = W1 at *
            generalize wr.heap.size = bn at *
            refine wp_region_held_drew (S := fun w' => w'.cell? ⟨bn, 0, none⟩ = some (.int .i64 t) ∧ w'.cell? ⟨bn, 1, none⟩ = some (.int .i64 s) ∧ w'.cell? ⟨bn, 2, none⟩ = some (.int .i64 al) ∧ w'.cell? ⟨bn, 3, none⟩ = some (.int .i64 o) ∧ w'.cell? ⟨bn, 4, none⟩ = some (.bool false) ∧ w'.cell? ⟨bn, 5, none⟩ = some (.int .i64 sh) ∧ w'.cell? ⟨gf, pn, none⟩ = some (.int .i64 FP)) (by kernel_rfl) (by ((try dsimp only); first | (with_reducible assumption) | ((repeat' (with_reducible apply And.intro)) <;> go_simp))) (fun hH0 => ?_)
            refine wpAnyH_take (i := 0) (oi := { dst := some 32, op := Go.Op.fieldAddr 54 (Go.Operand.tmp 9) 2, type := 0, pos := "ref.go:96", after := #[], guard := none }) (v := ?_) rfl (by kernel_rfl) (by kernel_rfl) (by kernel_rfl) (fun _ _ _ h => h) (Or.inl ⟨by rfl, ?_⟩) (by assumption) ?_
            rotate_left
            · (intro w hSw; (try dsimp only at hSw); go_simp) <;> (with_reducible rfl)
            simp only [Act.put, List.setIfInBounds_toArray, List.set_cons_zero, List.set_cons_succ]
            refine wpAnyH_take (i := 1) (oi := { dst := some 33, op := Go.Op.load 4 (Go.Operand.tmp 32), type := 4, pos := "ref.go:96", after := #[{ on := 0, ground := Go.Ground.data }], guard := none }) (v := ?_) rfl (by kernel_rfl) (by kernel_rfl) (by kernel_rfl) (fun _ _ _ h => h) (Or.inl ⟨by rfl, ?_⟩) (by assumption) ?_
            rotate_left
            · (intro w hSw; (try dsimp only at hSw); go_simp) <;> (with_reducible rfl)
            simp only [Act.put, List.setIfInBounds_toArray, List.set_cons_zero, List.set_cons_succ]
            refine wpAnyH_take (i := 2) (oi := { dst := some 34, op := Go.Op.unOp Go.UnOp.not 4 (Go.Operand.tmp 33), type := 4, pos := "ref.go:96", after := #[{ on := 1, ground := Go.Ground.data }], guard := none }) (v := ?_) rfl (by kernel_rfl) (by kernel_rfl) (by kernel_rfl) (fun _ _ _ h => h) (Or.inl ⟨by rfl, ?_⟩) (by assumption) ?_
            rotate_left
            · (intro w hSw; (try dsimp only at hSw); go_simp) <;> (with_reducible rfl)
            simp only [Act.put, List.setIfInBounds_toArray, List.set_cons_zero, List.set_cons_succ]
            refine wpAnyH_take (i := 3) (oi := { dst := some 35, op := Go.Op.move (Go.Operand.tmp 34), type := 4, pos := "ref.go:96", after := #[{ on := 2, ground := Go.Ground.data }], guard := none }) (v := ?_) rfl (by kernel_rfl) (by kernel_rfl) (by kernel_rfl) (fun _ _ _ h => h) (Or.inl ⟨by rfl, ?_⟩) (by assumption) ?_
            rotate_left
            · (intro w hSw; (try dsimp only at hSw); go_simp) <;> (with_reducible rfl)
            simp only [Act.put, List.setIfInBounds_toArray, List.set_cons_zero, List.set_cons_succ]
            refine wpAnyH_take (i := 4) (oi := { dst := some 36, op := Go.Op.fieldAddr 54 (Go.Operand.tmp 9) 1, type := 0, pos := "ref.go:96", after := #[{ on := 3, ground := Go.Ground.guard }], guard := some (3, true) }) (v := ?_) rfl (by kernel_rfl) (by kernel_rfl) (by kernel_rfl) (fun _ _ _ h => h) (Or.inl ⟨by rfl, ?_⟩) (by assumption) ?_
            rotate_left
            · (intro w hSw; (try dsimp only at hSw); go_simp) <;> (with_reducible rfl)
            simp only [Act.put, List.setIfInBounds_toArray, List.set_cons_zero, List.set_cons_succ]
            refine wpAnyH_take (i := 5) (oi := { dst := some 37, op := Go.Op.fieldAddr 52 (Go.Operand.tmp 36) 1, type := 0, pos := "ref.go:96", after := #[{ on := 4, ground := Go.Ground.data }, { on := 3, ground := Go.Ground.guard }], guard := some (3, true) }) (v := ?_) rfl (by kernel_rfl) (by kernel_rfl) (by kernel_rfl) (fun _ _ _ h => h) (Or.inl ⟨by rfl, ?_⟩) (by assumption) ?_
            rotate_left
            · (intro w hSw; (try dsimp only at hSw); go_simp) <;> (with_reducible rfl)
            simp only [Act.put, List.setIfInBounds_toArray, List.set_cons_zero, List.set_cons_succ]
            refine wpAnyH_take (i := 6) (oi := { dst := some 38, op := Go.Op.load 3 (Go.Operand.tmp 37), type := 3, pos := "ref.go:96", after := #[{ on := 5, ground := Go.Ground.data }, { on := 3, ground := Go.Ground.guard }], guard := some (3, true) }) (v := ?_) rfl (by kernel_rfl) (by kernel_rfl) (by kernel_rfl) (fun _ _ _ h => h) (Or.inl ⟨by rfl, ?_⟩) (by assumption) ?_
            rotate_left
            · (intro w hSw; (try dsimp only at hSw); go_simp) <;> (with_reducible rfl)
            simp only [Act.put, List.setIfInBounds_toArray, List.set_cons_zero, List.set_cons_succ]
            refine wpAnyH_take (i := 7) (oi := { dst := some 39, op := Go.Op.move (Go.Operand.tmp 6), type := 32, pos := "ref.go:96", after := #[{ on := 3, ground := Go.Ground.guard }], guard := some (3, true) }) (v := ?_) rfl (by kernel_rfl) (by kernel_rfl) (by kernel_rfl) (fun _ _ _ h => h) (Or.inl ⟨by rfl, ?_⟩) (by assumption) ?_
            rotate_left
            · (intro w hSw; (try dsimp only at hSw); go_simp) <;> (with_reducible rfl)
            simp only [Act.put, List.setIfInBounds_toArray, List.set_cons_zero, List.set_cons_succ]
            refine wpAnyH_take (i := 8) (oi := { dst := some 40, op := Go.Op.move (Go.Operand.tmp 10), type := 3, pos := "ref.go:96", after := #[{ on := 3, ground := Go.Ground.guard }], guard := some (3, true) }) (v := ?_) rfl (by kernel_rfl) (by kernel_rfl) (by kernel_rfl) (fun _ _ _ h => h) (Or.inl ⟨by rfl, ?_⟩) (by assumption) ?_
            rotate_left
            · (intro w hSw; (try dsimp only at hSw); go_simp) <;> (with_reducible rfl)
            simp only [Act.put, List.setIfInBounds_toArray, List.set_cons_zero, List.set_cons_succ]
            refine wpAnyH_take (i := 9) (oi := { dst := some 41, op := Go.Op.indexAddr 32 (Go.Operand.tmp 39) (Go.Operand.tmp 40), type := 0, pos := "ref.go:96", after := #[{ on := 7, ground := Go.Ground.data }, { on := 8, ground := Go.Ground.data }, { on := 3, ground := Go.Ground.guard }], guard := some (3, true) }) (v := ?_) rfl (by kernel_rfl) (by kernel_rfl) (by kernel_rfl) (fun _ _ _ h => h) (Or.inl ⟨by rfl, ?_⟩) (by assumption) ?_
            rotate_left
            · (intro w hSw; (try dsimp only at hSw); go_simp) <;> (with_reducible rfl)
            simp only [Act.put, List.setIfInBounds_toArray, List.set_cons_zero, List.set_cons_succ]
            refine wpAnyH_take (i := 10) (oi := { dst := some 42, op := Go.Op.load 3 (Go.Operand.tmp 41), type := 3, pos := "ref.go:96", after := #[{ on := 9, ground := Go.Ground.data }, { on := 3, ground := Go.Ground.guard }], guard := some (3, true) }) (v := ?_) rfl (by kernel_rfl) (by kernel_rfl) (by kernel_rfl) (fun _ _ _ h => h) (Or.inl ⟨by rfl, ?_⟩) (by assumption) ?_
            rotate_left
            · (intro w hSw; (try dsimp only at hSw); go_simp) <;> (with_reducible rfl)
            simp only [Act.put, List.setIfInBounds_toArray, List.set_cons_zero, List.set_cons_succ]
            refine wpAnyH_take (i := 11) (oi := { dst := some 43, op := Go.Op.binOp Go.BinOp.neq 3 (Go.Operand.tmp 38) (Go.Operand.tmp 42) 3, type := 4, pos := "ref.go:96", after := #[{ on := 6, ground := Go.Ground.data }, { on := 10, ground := Go.Ground.data }, { on := 3, ground := Go.Ground.guard }], guard := some (3, true) }) (v := ?_) rfl (by kernel_rfl) (by kernel_rfl) (by kernel_rfl) (fun _ _ _ h => h) (Or.inl ⟨by rfl, ?_⟩) (by assumption) ?_
            rotate_left
            · (intro w hSw; (try dsimp only at hSw); go_simp) <;> (with_reducible rfl)
            simp only [Act.put, List.setIfInBounds_toArray, List.set_cons_zero, List.set_cons_succ]
            refine wpAnyH_take (i := 12) (oi := { dst := some 44, op := Go.Op.pick (Go.Operand.tmp 35) (Go.Operand.tmp 43) (Go.Operand.const (Go.Value.bool false)), type := 4, pos := "ref.go:96", after := #[{ on := 3, ground := Go.Ground.data }, { on := 11, ground := Go.Ground.data }], guard := none }) (v := ?_) rfl (by kernel_rfl) (by kernel_rfl) (by kernel_rfl) (fun _ _ _ h => h) (Or.inl ⟨by rfl, ?_⟩) (by assumption) ?_
            rotate_left
            · (intro w hSw; (try dsimp only at hSw); go_simp) <;> (with_reducible rfl)
            simp only [Act.put, List.setIfInBounds_toArray, List.set_cons_zero, List.set_cons_succ]
            refine wpAnyH_take (i := 13) (oi := { dst := some 45, op := Go.Op.move (Go.Operand.tmp 44), type := 4, pos := "ref.go:96", after := #[{ on := 12, ground := Go.Ground.data }, { on := 3, ground := Go.Ground.chain }], guard := none }) (v := ?_) rfl (by kernel_rfl) (by kernel_rfl) (by kernel_rfl) (fun _ _ _ h => h) (Or.inl ⟨by rfl, ?_⟩) (by assumption) ?_
            rotate_left
            · (intro w hSw; (try dsimp only at hSw); go_simp) <;> (with_reducible rfl)
            simp only [Act.put, List.setIfInBounds_toArray, List.set_cons_zero, List.set_cons_succ]
            refine wpAnyH_take (i := 14) (oi := { dst := some 46, op := Go.Op.move (Go.Operand.tmp 1), type := 22, pos := "ref.go:96", after := #[{ on := 13, ground := Go.Ground.guard }], guard := some (13, false) }) (v := ?_) rfl (by kernel_rfl) (by kernel_rfl) (by kernel_rfl) (fun _ _ _ h => h) (Or.inl ⟨by rfl, ?_⟩) (by assumption) ?_
            rotate_left
            · (intro w hSw; (try dsimp only at hSw); go_simp) <;> (with_reducible rfl)
            simp only [Act.put, List.setIfInBounds_toArray, List.set_cons_zero, List.set_cons_succ]
            refine wpAnyH_take (i := 15) (oi := { dst := some 47, op := Go.Op.move (Go.Operand.tmp 8), type := 3, pos := "ref.go:96", after := #[{ on := 13, ground := Go.Ground.guard }], guard := some (13, false) }) (v := ?_) rfl (by kernel_rfl) (by kernel_rfl) (by kernel_rfl) (fun _ _ _ h => h) (Or.inl ⟨by rfl, ?_⟩) (by assumption) ?_
            rotate_left
            · (intro w hSw; (try dsimp only at hSw); go_simp) <;> (with_reducible rfl)
            simp only [Act.put, List.setIfInBounds_toArray, List.set_cons_zero, List.set_cons_succ]
            refine wpAnyH_ready (rs := [16]) (by kernel_rfl) (by simp) ?_
            refine (AllReadyH.cons (o := { dst := some 48, op := Go.Op.call { callee := Go.Callee.value (Go.Operand.func 22), args := #[Go.Operand.tmp 46, Go.Operand.tmp 47], argTypes := #[22, 3] }, type := 4, pos := "ref.go:96", after := #[{ on := 14, ground := Go.Ground.data }, { on := 15, ground := Go.Ground.data }, { on := 13, ground := Go.Ground.chain }, { on := 13, ground := Go.Ground.guard }], guard := some (13, false) }) rfl (fun Kc hKc => ?_) AllReadyH.nil)
            go_simp
            go_at_call 22
            refine (rClash_any _ l l.length c i _ _ rfl (by omega) (H1.out.later (by (repeat' (first | (with_reducible exact G.refl _) | (with_reducible assumption) | (with_reducible refine G.drewN ?_ _) | (with_reducible refine G.drew ?_) | (with_reducible refine G.alloc ?_ _) | (with_reducible refine G.setCell ?_ (by first | (with_reducible exact Nat.le_refl _) | (simp; done) | (simp; omega) | omega) _) | (with_reducible refine G.trans ?_ (by assumption)))))) HP.out).mono ?_
            rintro e W4 ⟨rfl, hG5⟩
            rw [← hC.out]
            have gq : G W1 W4 := G.trans (by (repeat' (first | (with_reducible exact G.refl _) | (with_reducible refine G.drewN ?_ _) | (with_reducible refine G.drew ?_) | (with_reducible refine G.alloc ?_ _)))) hG5
            obtain ⟨v0, v1, v2, v3, v4, v5⟩ := hN.out.later gq
            dsimp only at v0 v1 v2 v3 v4 v5
            simp only [Nat.zero_add] at v1 v2 v3 v4 v5
            have zc' := gq.at zc1
            refine hKc.out _ _ (by ((try dsimp only); first | (with_reducible assumption) | ((repeat' (with_reducible apply And.intro)) <;> go_simp))) (fun hH1 => ?_)
            clear hKc Kc hH0
            clear v0 v1 v2 v3 v4 v5 zc' hG5
            refine wpAnyH_take (i := 17) (oi := { dst := some 49, op := Go.Op.pick (Go.Operand.tmp 45) (Go.Operand.const (Go.Value.bool true)) (Go.Operand.tmp 48), type := 4, pos := "ref.go:96", after := #[{ on := 13, ground := Go.Ground.data }, { on := 16, ground := Go.Ground.data }], guard := none }) (v := ?_) rfl (by kernel_rfl) (by kernel_rfl) (by kernel_rfl) (fun _ _ _ h => h) (Or.inl ⟨by rfl, ?_⟩) (by assumption) ?_
            rotate_left
            · (intro w hSw; (try dsimp only at hSw); go_simp) <;> (with_reducible rfl)
            simp only [Act.put, List.setIfInBounds_toArray, List.set_cons_zero, List.set_cons_succ]
            refine wpAnyH_take (i := 18) (oi := { dst := some 11, op := Go.Op.assign (Go.Operand.tmp 49), type := 4, pos := "ref.go:96", after := #[{ on := 17, ground := Go.Ground.data }, { on := 16, ground := Go.Ground.chain }, { on := 0, ground := Go.Ground.phase }, { on := 1, ground := Go.Ground.phase }, { on := 2, ground := Go.Ground.phase }, { on := 3, ground := Go.Ground.phase }, { on := 4, ground := Go.Ground.phase }, { on := 5, ground := Go.Ground.phase }, { on := 6, ground := Go.Ground.phase }, { on := 7, ground := Go.Ground.phase }, { on := 8, ground := Go.Ground.phase }, { on := 9, ground := Go.Ground.phase }, { on := 10, ground := Go.Ground.phase }, { on := 11, ground := Go.Ground.phase }, { on := 12, ground := Go.Ground.phase }, { on := 13, ground := Go.Ground.phase }, { on := 14, ground := Go.Ground.phase }, { on := 15, ground := Go.Ground.phase }, { on := 16, ground := Go.Ground.phase }, { on := 17, ground := Go.Ground.phase }], guard := none }) (v := ?_) rfl (by kernel_rfl) (by kernel_rfl) (by kernel_rfl) (fun _ _ _ h => h) (Or.inl ⟨by rfl, ?_⟩) (by assumption) ?_
            rotate_left
            · (intro w hSw; (try dsimp only at hSw); go_simp) <;> (with_reducible rfl)
            simp only [Act.put, List.setIfInBounds_toArray, List.set_cons_zero, List.set_cons_succ]
            refine wpAnyH_done (by kernel_rfl) ?_ _
            have g4 := Lib.hid ((gr.trans gW1).trans gq)
            have R4 := Lib.hid (hR.out.later (gW1.trans gq))
            have A4 := Lib.hid (hA.out.later (gW1.trans gq))
            obtain ⟨v0, v1, v2, v3, v4, v5⟩ := hN.out.later gq
            dsimp only at v0 v1 v2 v3 v4 v5
            simp only [Nat.zero_add] at v1 v2 v3 v4 v5
            have RL := Lib.hid (Row.ltN R4.out)
            have RNE := Lib.hid (Row.ne R4.out ltf)
            have hb4 : base ≤ W4.heap.size := by have := gq.size; have := hb1.out; omega
            have l4 : gf < W4.heap.size := by omega
            obtain ⟨f4c, f4f⟩ := A4.out pn p2
            rw [← HPN.out] at f4c
            have hw4 : w.heap.size ≤ W4.heap.size := g4.out.size
            have NZ := Lib.hid (show ¬ (al + 3 = 0) from fun e => by have := HOK.out _ (List.mem_of_getElem? HP.out); obtain ⟨_, _, k, _⟩ := this; unfold AOk at k; dsimp only at k; omega)
            clear hR hA gr hN gW1 gq hbs u0 u1 u2 u3 u4 u5 zc1
            skip
            go_wp2_with (at_builtin; refine wpList_append_own _ rfl _ _ 31 rfl base 40 i0 (.agg #[.int .i64 0, .bool false]) 2 16 Tryd.underlying31 hi hz0 hz1 hz2 rfl (by decide) v M.length (M.flatMap mkE2) rfl (show Row mkE2 40 2 base _ v M from by repeat' (first | (with_reducible exact R4.out) | (with_reducible refine Row.al ?_ _) | (with_reducible refine Row.farN ?_ (by first | exact RL.out | exact RNE.out) _ _))) ⟨W4.heap.size + 1, 0, none⟩ 1 1 [.int .i64 (al + 3), .bool false] rfl rfl (new_add _ _ [.int .i64 (al + 3), .bool false] _ (by simp [go_sem])) (by simp [Value.oneCell']) (by unfold maxLen; omega) (by omega) (by simp [go_sem]; omega) ?_; intro v' w6 hown' hgrow _)
            have RN := Lib.hid (Row.more (enc := mkE2) (M := M) (x := (al + 3, false)) hown')
            have AN : Hid (Arr w6 gf (upd F P al)) := Lib.hid (Arr.grown (row := v.ownBlock) (by repeat' (first | (with_reducible exact A4.out) | (with_reducible refine Arr.al ?_ _) | (with_reducible refine Arr.setN ?_ HPN.out p2 _) | (with_reducible refine Arr.farC ?_ (by omega) _ _))) hgrow RNE.out)
            have gN : G w w6 := by
              refine Below.grown (B := w.heap.size) ?_ hgrow ?_ (fun k hk => by have := Row.own R4.out k hk; omega)
              · have gw4 := g4.out
                show G w _
                (repeat' (first | (with_reducible exact G.refl _) | (with_reducible assumption) | (with_reducible refine G.drewN ?_ _) | (with_reducible refine G.drew ?_) | (with_reducible refine G.alloc ?_ _) | (with_reducible refine G.setCell ?_ (by first | (with_reducible exact Nat.le_refl _) | (simp; done) | (simp; omega) | omega) _) | (with_reducible refine G.trans ?_ (by assumption))))
              · simp [go_sem]; omega
            have hsN : base ≤ w6.heap.size := by have := hgrow.size; simp [go_sem] at this; omega
            have hk : mK D ⟨t, s, al, o, false, sh⟩ = al + 3 := by rw [HDE.out]; exact if_neg (fun k => by cases k.1)
            have hpb : mP D ⟨t, s, al, o, false, sh⟩ = false := by rw [HDE.out]; rfl
            have h1 := HD2.out _ _ hk hpb
            have h2 := HDF2.out _ hk
            rw [if_neg NZ.out] at h1 h2
            go_roundg (l.length - (i + 1))
            case measure => have := HQ.out; omega
            case rel => exact ⟨i + 1, v', M ++ [(al + 3, false)], _, rfl, by first | rfl | simp, rfl, by omega, by rw [List.length_append, HM.out]; rfl, Lib.hid h1, Lib.hid h2, RN, AN, gN, hsN⟩
          · obtain rfl : C = false := by simpa using hC1
            clear hC1
            have HDE := Lib.hid (show D = false by rw [HDC.out]; simp [HFE.out])
            go_wp2_with fail
            refine (rIndex_any s o _ HPOS.out).mono ?_
            rintro e w4 ⟨rfl, rfl⟩
            rw [← hP.out]
            go_wp2_with fail
            have gW1 : G wr (wr.alloc (.cells #[.int .i64 t, .int .i64 s, .int .i64 al, .int .i64 o, .bool false, .int .i64 sh] 54)) := by (repeat' (first | (with_reducible exact G.refl _) | (with_reducible assumption) | (with_reducible refine G.drewN ?_ _) | (with_reducible refine G.drew ?_) | (with_reducible refine G.alloc ?_ _) | (with_reducible refine G.setCell ?_ (by first | (with_reducible exact Nat.le_refl _) | (simp; done) | (simp; omega) | omega) _) | (with_reducible refine G.trans ?_ (by assumption))))
            have hN : Hid (Nt6 (wr.alloc (.cells #[.int .i64 t, .int .i64 s, .int .i64 al, .int .i64 o, .bool false, .int .i64 sh] 54)) wr.heap.size 0 ⟨t, s, al, o, false, sh⟩) := Lib.hid (six_at (W := wr) rfl (G.refl _))
            have zc1 := gW1.at zc6
            obtain ⟨u0, u1, u2, u3, u4, u5⟩ := hN.out
            dsimp only at u0 u1 u2 u3 u4 u5
            simp only [Nat.zero_add] at u1 u2 u3 u4 u5
            have hb1 := Lib.hid (show base ≤ (wr.alloc (.cells #[.int .i64 t, .int .i64 s, .int .i64 al, .int .i64 o, .bool false, .int .i64 sh] 54)).heap.size by have := gW1.size; omega)
            generalize wr.alloc (.cells #[.int .i64 t, .int .i64 s, .int .i64 al, .int .i64 o, .bool false, .int .i64 sh] 54) = W1 at *
            generalize wr.heap.size = bn at *
            refine wp_region_held_drew (S := fun w' => w'.cell? ⟨bn, 0, none⟩ = some (.int .i64 t) ∧ w'.cell? ⟨bn, 1, none⟩ = some (.int .i64 s) ∧ w'.cell? ⟨bn, 2, none⟩ = some (.int .i64 al) ∧ w'.cell? ⟨bn, 3, none⟩ = some (.int .i64 o) ∧ w'.cell? ⟨bn, 4, none⟩ = some (.bool false) ∧ w'.cell? ⟨bn, 5, none⟩ = some (.int .i64 sh) ∧ w'.cell? ⟨gf, pn, none⟩ = some (.int .i64 FP)) (by kernel_rfl) (by ((try dsimp only); first | (with_reducible assumption) | ((repeat' (with_reducible apply And.intro)) <;> go_simp))) (fun hH0 => ?_)
            refine wpAnyH_take (i := 0) (oi := { dst := some 32, op := Go.Op.fieldAddr 54 (Go.Operand.tmp 9) 2, type := 0, pos := "ref.go:96", after := #[], guard := none }) (v := ?_) rfl (by kernel_rfl) (by kernel_rfl) (by kernel_rfl) (fun _ _ _ h => h) (Or.inl ⟨by rfl, ?_⟩) (by assumption) ?_
            rotate_left
            · (intro w hSw; (try dsimp only at hSw); go_simp) <;> (with_reducible rfl)
            simp only [Act.put, List.setIfInBounds_toArray, List.set_cons_zero, List.set_cons_succ]
            refine wpAnyH_take (i := 1) (oi := { dst := some 33, op := Go.Op.load 4 (Go.Operand.tmp 32), type := 4, pos := "ref.go:96", after := #[{ on := 0, ground := Go.Ground.data }], guard := none }) (v := ?_) rfl (by kernel_rfl) (by kernel_rfl) (by kernel_rfl) (fun _ _ _ h => h) (Or.inl ⟨by rfl, ?_⟩) (by assumption) ?_
            rotate_left
            · (intro w hSw; (try dsimp only at hSw); go_simp) <;> (with_reducible rfl)
            simp only [Act.put, List.setIfInBounds_toArray, List.set_cons_zero, List.set_cons_succ]
            refine wpAnyH_take (i := 2) (oi := { dst := some 34, op := Go.Op.unOp Go.UnOp.not 4 (Go.Operand.tmp 33), type := 4, pos := "ref.go:96", after := #[{ on := 1, ground := Go.Ground.data }], guard := none }) (v := ?_) rfl (by kernel_rfl) (by kernel_rfl) (by kernel_rfl) (fun _ _ _ h => h) (Or.inl ⟨by rfl, ?_⟩) (by assumption) ?_
            rotate_left
            · (intro w hSw; (try dsimp only at hSw); go_simp) <;> (with_reducible rfl)
            simp only [Act.put, List.setIfInBounds_toArray, List.set_cons_zero, List.set_cons_succ]
            refine wpAnyH_take (i := 3) (oi := { dst := some 35, op := Go.Op.move (Go.Operand.tmp 34), type := 4, pos := "ref.go:96", after := #[{ on := 2, ground := Go.Ground.data }], guard := none }) (v := ?_) rfl (by kernel_rfl) (by kernel_rfl) (by kernel_rfl) (fun _ _ _ h => h) (Or.inl ⟨by rfl, ?_⟩) (by assumption) ?_
            rotate_left
            · (intro w hSw; (try dsimp only at hSw); go_simp) <;> (with_reducible rfl)
            simp only [Act.put, List.setIfInBounds_toArray, List.set_cons_zero, List.set_cons_succ]
            refine wpAnyH_take (i := 4) (oi := { dst := some 36, op := Go.Op.fieldAddr 54 (Go.Operand.tmp 9) 1, type := 0, pos := "ref.go:96", after := #[{ on := 3, ground := Go.Ground.guard }], guard := some (3, true) }) (v := ?_) rfl (by kernel_rfl) (by kernel_rfl) (by kernel_rfl) (fun _ _ _ h => h) (Or.inl ⟨by rfl, ?_⟩) (by assumption) ?_
            rotate_left
            · (intro w hSw; (try dsimp only at hSw); go_simp) <;> (with_reducible rfl)
            simp only [Act.put, List.setIfInBounds_toArray, List.set_cons_zero, List.set_cons_succ]
            refine wpAnyH_take (i := 5) (oi := { dst := some 37, op := Go.Op.fieldAddr 52 (Go.Operand.tmp 36) 1, type := 0, pos := "ref.go:96", after := #[{ on := 4, ground := Go.Ground.data }, { on := 3, ground := Go.Ground.guard }], guard := some (3, true) }) (v := ?_) rfl (by kernel_rfl) (by kernel_rfl) (by kernel_rfl) (fun _ _ _ h => h) (Or.inl ⟨by rfl, ?_⟩) (by assumption) ?_
            rotate_left
            · (intro w hSw; (try dsimp only at hSw); go_simp) <;> (with_reducible rfl)
            simp only [Act.put, List.setIfInBounds_toArray, List.set_cons_zero, List.set_cons_succ]
            refine wpAnyH_take (i := 6) (oi := { dst := some 38, op := Go.Op.load 3 (Go.Operand.tmp 37), type := 3, pos := "ref.go:96", after := #[{ on := 5, ground := Go.Ground.data }, { on := 3, ground := Go.Ground.guard }], guard := some (3, true) }) (v := ?_) rfl (by kernel_rfl) (by kernel_rfl) (by kernel_rfl) (fun _ _ _ h => h) (Or.inl ⟨by rfl, ?_⟩) (by assumption) ?_
            rotate_left
            · (intro w hSw; (try dsimp only at hSw); go_simp) <;> (with_reducible rfl)
            simp only [Act.put, List.setIfInBounds_toArray, List.set_cons_zero, List.set_cons_succ]
            refine wpAnyH_take (i := 7) (oi := { dst := some 39, op := Go.Op.move (Go.Operand.tmp 6), type := 32, pos := "ref.go:96", after := #[{ on := 3, ground := Go.Ground.guard }], guard := some (3, true) }) (v := ?_) rfl (by kernel_rfl) (by kernel_rfl) (by kernel_rfl) (fun _ _ _ h => h) (Or.inl ⟨by rfl, ?_⟩) (by assumption) ?_
            rotate_left
            · (intro w hSw; (try dsimp only at hSw); go_simp) <;> (with_reducible rfl)
            simp only [Act.put, List.setIfInBounds_toArray, List.set_cons_zero, List.set_cons_succ]
            refine wpAnyH_take (i := 8) (oi := { dst := some 40, op := Go.Op.move (Go.Operand.tmp 10), type := 3, pos := "ref.go:96", after := #[{ on := 3, ground := Go.Ground.guard }], guard := some (3, true) }) (v := ?_) rfl (by kernel_rfl) (by kernel_rfl) (by kernel_rfl) (fun _ _ _ h => h) (Or.inl ⟨by rfl, ?_⟩) (by assumption) ?_
            rotate_left
            · (intro w hSw; (try dsimp only at hSw); go_simp) <;> (with_reducible rfl)
            simp only [Act.put, List.setIfInBounds_toArray, List.set_cons_zero, List.set_cons_succ]
            refine wpAnyH_take (i := 9) (oi := { dst := some 41, op := Go.Op.indexAddr 32 (Go.Operand.tmp 39) (Go.Operand.tmp 40), type := 0, pos := "ref.go:96", after := #[{ on := 7, ground := Go.Ground.data }, { on := 8, ground := Go.Ground.data }, { on := 3, ground := Go.Ground.guard }], guard := some (3, true) }) (v := ?_) rfl (by kernel_rfl) (by kernel_rfl) (by kernel_rfl) (fun _ _ _ h => h) (Or.inl ⟨by rfl, ?_⟩) (by assumption) ?_
            rotate_left
            · (intro w hSw; (try dsimp only at hSw); go_simp) <;> (with_reducible rfl)
            simp only [Act.put, List.setIfInBounds_toArray, List.set_cons_zero, List.set_cons_succ]
            refine wpAnyH_take (i := 10) (oi := { dst := some 42, op := Go.Op.load 3 (Go.Operand.tmp 41), type := 3, pos := "ref.go:96", after := #[{ on := 9, ground := Go.Ground.data }, { on := 3, ground := Go.Ground.guard }], guard := some (3, true) }) (v := ?_) rfl (by kernel_rfl) (by kernel_rfl) (by kernel_rfl) (fun _ _ _ h => h) (Or.inl ⟨by rfl, ?_⟩) (by assumption) ?_
            rotate_left
            · (intro w hSw; (try dsimp only at hSw); go_simp) <;> (with_reducible rfl)
            simp only [Act.put, List.setIfInBounds_toArray, List.set_cons_zero, List.set_cons_succ]
            refine wpAnyH_take (i := 11) (oi := { dst := some 43, op := Go.Op.binOp Go.BinOp.neq 3 (Go.Operand.tmp 38) (Go.Operand.tmp 42) 3, type := 4, pos := "ref.go:96", after := #[{ on := 6, ground := Go.Ground.data }, { on := 10, ground := Go.Ground.data }, { on := 3, ground := Go.Ground.guard }], guard := some (3, true) }) (v := ?_) rfl (by kernel_rfl) (by kernel_rfl) (by kernel_rfl) (fun _ _ _ h => h) (Or.inl ⟨by rfl, ?_⟩) (by assumption) ?_
            rotate_left
            · (intro w hSw; (try dsimp only at hSw); go_simp) <;> (with_reducible rfl)
            simp only [Act.put, List.setIfInBounds_toArray, List.set_cons_zero, List.set_cons_succ]
            refine wpAnyH_take (i := 12) (oi := { dst := some 44, op := Go.Op.pick (Go.Operand.tmp 35) (Go.Operand.tmp 43) (Go.Operand.const (Go.Value.bool false)), type := 4, pos := "ref.go:96", after := #[{ on := 3, ground := Go.Ground.data }, { on := 11, ground := Go.Ground.data }], guard := none }) (v := ?_) rfl (by kernel_rfl) (by kernel_rfl) (by kernel_rfl) (fun _ _ _ h => h) (Or.inl ⟨by rfl, ?_⟩) (by assumption) ?_
            rotate_left
            · (intro w hSw; (try dsimp only at hSw); go_simp) <;> (with_reducible rfl)
            simp only [Act.put, List.setIfInBounds_toArray, List.set_cons_zero, List.set_cons_succ]
            refine wpAnyH_take (i := 13) (oi := { dst := some 45, op := Go.Op.move (Go.Operand.tmp 44), type := 4, pos := "ref.go:96", after := #[{ on := 12, ground := Go.Ground.data }, { on := 3, ground := Go.Ground.chain }], guard := none }) (v := ?_) rfl (by kernel_rfl) (by kernel_rfl) (by kernel_rfl) (fun _ _ _ h => h) (Or.inl ⟨by rfl, ?_⟩) (by assumption) ?_
            rotate_left
            · (intro w hSw; (try dsimp only at hSw); go_simp) <;> (with_reducible rfl)
            simp only [Act.put, List.setIfInBounds_toArray, List.set_cons_zero, List.set_cons_succ]
            refine wpAnyH_take (i := 14) (oi := { dst := some 46, op := Go.Op.move (Go.Operand.tmp 1), type := 22, pos := "ref.go:96", after := #[{ on := 13, ground := Go.Ground.guard }], guard := some (13, false) }) (v := ?_) rfl (by kernel_rfl) (by kernel_rfl) (by kernel_rfl) (fun _ _ _ h => h) (Or.inl ⟨by rfl, ?_⟩) (by assumption) ?_
            rotate_left
            · (intro w hSw; (try dsimp only at hSw); go_simp) <;> (with_reducible rfl)
            simp only [Act.put, List.setIfInBounds_toArray, List.set_cons_zero, List.set_cons_succ]
            refine wpAnyH_take (i := 15) (oi := { dst := some 47, op := Go.Op.move (Go.Operand.tmp 8), type := 3, pos := "ref.go:96", after := #[{ on := 13, ground := Go.Ground.guard }], guard := some (13, false) }) (v := ?_) rfl (by kernel_rfl) (by kernel_rfl) (by kernel_rfl) (fun _ _ _ h => h) (Or.inl ⟨by rfl, ?_⟩) (by assumption) ?_
            rotate_left
            · (intro w hSw; (try dsimp only at hSw); go_simp) <;> (with_reducible rfl)
            simp only [Act.put, List.setIfInBounds_toArray, List.set_cons_zero, List.set_cons_succ]
            refine wpAnyH_ready (rs := [16]) (by kernel_rfl) (by simp) ?_
            refine (AllReadyH.cons (o := { dst := some 48, op := Go.Op.call { callee := Go.Callee.value (Go.Operand.func 22), args := #[Go.Operand.tmp 46, Go.Operand.tmp 47], argTypes := #[22, 3] }, type := 4, pos := "ref.go:96", after := #[{ on := 14, ground := Go.Ground.data }, { on := 15, ground := Go.Ground.data }, { on := 13, ground := Go.Ground.chain }, { on := 13, ground := Go.Ground.guard }], guard := some (13, false) }) rfl (fun Kc hKc => ?_) AllReadyH.nil)
            go_simp
            go_at_call 22
            refine (rClash_any _ l l.length c i _ _ rfl (by omega) (H1.out.later (by (repeat' (first | (with_reducible exact G.refl _) | (with_reducible assumption) | (with_reducible refine G.drewN ?_ _) | (with_reducible refine G.drew ?_) | (with_reducible refine G.alloc ?_ _) | (with_reducible refine G.setCell ?_ (by first | (with_reducible exact Nat.le_refl _) | (simp; done) | (simp; omega) | omega) _) | (with_reducible refine G.trans ?_ (by assumption)))))) HP.out).mono ?_
            rintro e W4 ⟨rfl, hG5⟩
            rw [← hC.out]
            have gq : G W1 W4 := G.trans (by (repeat' (first | (with_reducible exact G.refl _) | (with_reducible refine G.drewN ?_ _) | (with_reducible refine G.drew ?_) | (with_reducible refine G.alloc ?_ _)))) hG5
            obtain ⟨v0, v1, v2, v3, v4, v5⟩ := hN.out.later gq
            dsimp only at v0 v1 v2 v3 v4 v5
            simp only [Nat.zero_add] at v1 v2 v3 v4 v5
            have zc' := gq.at zc1
            refine hKc.out _ _ (by ((try dsimp only); first | (with_reducible assumption) | ((repeat' (with_reducible apply And.intro)) <;> go_simp))) (fun hH1 => ?_)
            clear hKc Kc hH0
            clear v0 v1 v2 v3 v4 v5 zc' hG5
            refine wpAnyH_take (i := 17) (oi := { dst := some 49, op := Go.Op.pick (Go.Operand.tmp 45) (Go.Operand.const (Go.Value.bool true)) (Go.Operand.tmp 48), type := 4, pos := "ref.go:96", after := #[{ on := 13, ground := Go.Ground.data }, { on := 16, ground := Go.Ground.data }], guard := none }) (v := ?_) rfl (by kernel_rfl) (by kernel_rfl) (by kernel_rfl) (fun _ _ _ h => h) (Or.inl ⟨by rfl, ?_⟩) (by assumption) ?_
            rotate_left
            · (intro w hSw; (try dsimp only at hSw); go_simp) <;> (with_reducible rfl)
            simp only [Act.put, List.setIfInBounds_toArray, List.set_cons_zero, List.set_cons_succ]
            refine wpAnyH_take (i := 18) (oi := { dst := some 11, op := Go.Op.assign (Go.Operand.tmp 49), type := 4, pos := "ref.go:96", after := #[{ on := 17, ground := Go.Ground.data }, { on := 16, ground := Go.Ground.chain }, { on := 0, ground := Go.Ground.phase }, { on := 1, ground := Go.Ground.phase }, { on := 2, ground := Go.Ground.phase }, { on := 3, ground := Go.Ground.phase }, { on := 4, ground := Go.Ground.phase }, { on := 5, ground := Go.Ground.phase }, { on := 6, ground := Go.Ground.phase }, { on := 7, ground := Go.Ground.phase }, { on := 8, ground := Go.Ground.phase }, { on := 9, ground := Go.Ground.phase }, { on := 10, ground := Go.Ground.phase }, { on := 11, ground := Go.Ground.phase }, { on := 12, ground := Go.Ground.phase }, { on := 13, ground := Go.Ground.phase }, { on := 14, ground := Go.Ground.phase }, { on := 15, ground := Go.Ground.phase }, { on := 16, ground := Go.Ground.phase }, { on := 17, ground := Go.Ground.phase }], guard := none }) (v := ?_) rfl (by kernel_rfl) (by kernel_rfl) (by kernel_rfl) (fun _ _ _ h => h) (Or.inl ⟨by rfl, ?_⟩) (by assumption) ?_
            rotate_left
            · (intro w hSw; (try dsimp only at hSw); go_simp) <;> (with_reducible rfl)
            simp only [Act.put, List.setIfInBounds_toArray, List.set_cons_zero, List.set_cons_succ]
            refine wpAnyH_done (by kernel_rfl) ?_ _
            have g4 := Lib.hid ((gr.trans gW1).trans gq)
            have R4 := Lib.hid (hR.out.later (gW1.trans gq))
            have A4 := Lib.hid (hA.out.later (gW1.trans gq))
            obtain ⟨v0, v1, v2, v3, v4, v5⟩ := hN.out.later gq
            dsimp only at v0 v1 v2 v3 v4 v5
            simp only [Nat.zero_add] at v1 v2 v3 v4 v5
            have RL := Lib.hid (Row.ltN R4.out)
            have RNE := Lib.hid (Row.ne R4.out ltf)
            have hb4 : base ≤ W4.heap.size := by have := gq.size; have := hb1.out; omega
            have l4 : gf < W4.heap.size := by omega
            obtain ⟨f4c, f4f⟩ := A4.out pn p2
            rw [← HPN.out] at f4c
            have hw4 : w.heap.size ≤ W4.heap.size := g4.out.size
            have NZ := Lib.hid (show ¬ (al + 3 = 0) from fun e => by have := HOK.out _ (List.mem_of_getElem? HP.out); obtain ⟨_, _, k, _⟩ := this; unfold AOk at k; dsimp only at k; omega)
            clear hR hA gr hN gW1 gq hbs u0 u1 u2 u3 u4 u5 zc1
            by_cases e0 : sh = 0
            · have k1 : (sh == 0) = true := by rw [e0]; rfl
              have k2 : (sh != 0) = false := by simp [bne, k1]
              have HE := Lib.hid e0
              clear e0
              go_wp2_with (at_builtin; refine wpList_append_own _ rfl _ _ 31 rfl base 40 i0 (.agg #[.int .i64 0, .bool false]) 2 16 Tryd.underlying31 hi hz0 hz1 hz2 rfl (by decide) v M.length (M.flatMap mkE2) rfl (show Row mkE2 40 2 base _ v M from by repeat' (first | (with_reducible exact R4.out) | (with_reducible refine Row.al ?_ _) | (with_reducible refine Row.farN ?_ (by first | exact RL.out | exact RNE.out) _ _))) ⟨W4.heap.size + 1, 0, none⟩ 1 1 [.int .i64 (0), .bool false] rfl rfl (new_add _ _ [.int .i64 (0), .bool false] _ (by simp [go_sem])) (by simp [Value.oneCell']) (by unfold maxLen; omega) (by omega) (by simp [go_sem]; omega) ?_; intro v' w6 hown' hgrow _)
              have RN := Lib.hid (Row.more (enc := mkE2) (M := M) (x := (0, false)) hown')
              have AN : Hid (Arr w6 gf (F)) := Lib.hid (Arr.grown (row := v.ownBlock) (by repeat' (first | (with_reducible exact A4.out) | (with_reducible refine Arr.al ?_ _) | (with_reducible refine Arr.setN ?_ HPN.out p2 _) | (with_reducible refine Arr.farC ?_ (by omega) _ _))) hgrow RNE.out)
              have gN : G w w6 := by
                refine Below.grown (B := w.heap.size) ?_ hgrow ?_ (fun k hk => by have := Row.own R4.out k hk; omega)
                · have gw4 := g4.out
                  show G w _
                  (repeat' (first | (with_reducible exact G.refl _) | (with_reducible assumption) | (with_reducible refine G.drewN ?_ _) | (with_reducible refine G.drew ?_) | (with_reducible refine G.alloc ?_ _) | (with_reducible refine G.setCell ?_ (by first | (with_reducible exact Nat.le_refl _) | (simp; done) | (simp; omega) | omega) _) | (with_reducible refine G.trans ?_ (by assumption))))
                · simp [go_sem]; omega
              have hsN : base ≤ w6.heap.size := by have := hgrow.size; simp [go_sem] at this; omega
              have hk : mK D ⟨t, s, al, o, false, sh⟩ = 0 := by rw [HDE.out]; exact if_pos ⟨rfl, HE.out⟩
              have hpb : mP D ⟨t, s, al, o, false, sh⟩ = false := by rw [HDE.out]; unfold mP; dsimp only; rw [HE.out]; rfl
              have h1 := HD2.out _ _ hk hpb
              have h2 := HDF2.out _ hk
              rw [if_pos rfl] at h1 h2
              go_roundg (l.length - (i + 1))
              case measure => have := HQ.out; omega
              case rel => exact ⟨i + 1, v', M ++ [(0, false)], _, rfl, by first | rfl | simp, rfl, by omega, by rw [List.length_append, HM.out]; rfl, Lib.hid h1, Lib.hid h2, RN, AN, gN, hsN⟩
            · have k1 : (sh == 0) = false := beq_false_of_ne e0
              have k2 : (sh != 0) = true := by simp [bne, k1]
              have HE := Lib.hid e0
              clear e0
              by_cases e2 : sh = 2
              · have k3 : (sh == 2) = true := by rw [e2]; rfl
                have HE2 := Lib.hid e2
                clear e2
                go_wp2_with (at_builtin; refine wpList_append_own _ rfl _ _ 31 rfl base 40 i0 (.agg #[.int .i64 0, .bool false]) 2 16 Tryd.underlying31 hi hz0 hz1 hz2 rfl (by decide) v M.length (M.flatMap mkE2) rfl (show Row mkE2 40 2 base _ v M from by repeat' (first | (with_reducible exact R4.out) | (with_reducible refine Row.al ?_ _) | (with_reducible refine Row.farN ?_ (by first | exact RL.out | exact RNE.out) _ _))) ⟨W4.heap.size + 1, 0, none⟩ 1 1 [.int .i64 (al + 3), .bool true] rfl rfl (new_add _ _ [.int .i64 (al + 3), .bool true] _ (by simp [go_sem])) (by simp [Value.oneCell']) (by unfold maxLen; omega) (by omega) (by simp [go_sem]; omega) ?_; intro v' w6 hown' hgrow _)
                have RN := Lib.hid (Row.more (enc := mkE2) (M := M) (x := (al + 3, true)) hown')
                have AN : Hid (Arr w6 gf (upd F P al)) := Lib.hid (Arr.grown (row := v.ownBlock) (by repeat' (first | (with_reducible exact A4.out) | (with_reducible refine Arr.al ?_ _) | (with_reducible refine Arr.setN ?_ HPN.out p2 _) | (with_reducible refine Arr.farC ?_ (by omega) _ _))) hgrow RNE.out)
                have gN : G w w6 := by
                  refine Below.grown (B := w.heap.size) ?_ hgrow ?_ (fun k hk => by have := Row.own R4.out k hk; omega)
                  · have gw4 := g4.out
                    show G w _
                    (repeat' (first | (with_reducible exact G.refl _) | (with_reducible assumption) | (with_reducible refine G.drewN ?_ _) | (with_reducible refine G.drew ?_) | (with_reducible refine G.alloc ?_ _) | (with_reducible refine G.setCell ?_ (by first | (with_reducible exact Nat.le_refl _) | (simp; done) | (simp; omega) | omega) _) | (with_reducible refine G.trans ?_ (by assumption))))
                  · simp [go_sem]; omega
                have hsN : base ≤ w6.heap.size := by have := hgrow.size; simp [go_sem] at this; omega
                have hk : mK D ⟨t, s, al, o, false, sh⟩ = al + 3 := by rw [HDE.out]; exact if_neg (fun k => HE.out k.2)
                have hpb : mP D ⟨t, s, al, o, false, sh⟩ = true := by rw [HDE.out]; unfold mP; dsimp only; rw [HE2.out]; rfl
                have h1 := HD2.out _ _ hk hpb
                have h2 := HDF2.out _ hk
                rw [if_neg NZ.out] at h1 h2
                go_roundg (l.length - (i + 1))
                case measure => have := HQ.out; omega
                case rel => exact ⟨i + 1, v', M ++ [(al + 3, true)], _, rfl, by first | rfl | simp, rfl, by omega, by rw [List.length_append, HM.out]; rfl, Lib.hid h1, Lib.hid h2, RN, AN, gN, hsN⟩
              · have k3 : (sh == 2) = false := beq_false_of_ne e2
                have HE2 := Lib.hid e2
                clear e2
                go_wp2_with (at_builtin; refine wpList_append_own _ rfl _ _ 31 rfl base 40 i0 (.agg #[.int .i64 0, .bool false]) 2 16 Tryd.underlying31 hi hz0 hz1 hz2 rfl (by decide) v M.length (M.flatMap mkE2) rfl (show Row mkE2 40 2 base _ v M from by repeat' (first | (with_reducible exact R4.out) | (with_reducible refine Row.al ?_ _) | (with_reducible refine Row.farN ?_ (by first | exact RL.out | exact RNE.out) _ _))) ⟨W4.heap.size + 1, 0, none⟩ 1 1 [.int .i64 (al + 3), .bool false] rfl rfl (new_add _ _ [.int .i64 (al + 3), .bool false] _ (by simp [go_sem])) (by simp [Value.oneCell']) (by unfold maxLen; omega) (by omega) (by simp [go_sem]; omega) ?_; intro v' w6 hown' hgrow _)
                have RN := Lib.hid (Row.more (enc := mkE2) (M := M) (x := (al + 3, false)) hown')
                have AN : Hid (Arr w6 gf (upd F P al)) := Lib.hid (Arr.grown (row := v.ownBlock) (by repeat' (first | (with_reducible exact A4.out) | (with_reducible refine Arr.al ?_ _) | (with_reducible refine Arr.setN ?_ HPN.out p2 _) | (with_reducible refine Arr.farC ?_ (by omega) _ _))) hgrow RNE.out)
                have gN : G w w6 := by
                  refine Below.grown (B := w.heap.size) ?_ hgrow ?_ (fun k hk => by have := Row.own R4.out k hk; omega)
                  · have gw4 := g4.out
                    show G w _
                    (repeat' (first | (with_reducible exact G.refl _) | (with_reducible assumption) | (with_reducible refine G.drewN ?_ _) | (with_reducible refine G.drew ?_) | (with_reducible refine G.alloc ?_ _) | (with_reducible refine G.setCell ?_ (by first | (with_reducible exact Nat.le_refl _) | (simp; done) | (simp; omega) | omega) _) | (with_reducible refine G.trans ?_ (by assumption))))
                  · simp [go_sem]; omega
                have hsN : base ≤ w6.heap.size := by have := hgrow.size; simp [go_sem] at this; omega
                have hk : mK D ⟨t, s, al, o, false, sh⟩ = al + 3 := by rw [HDE.out]; exact if_neg (fun k => HE.out k.2)
                have hpb : mP D ⟨t, s, al, o, false, sh⟩ = false := by rw [HDE.out]; unfold mP; dsimp only; rw [decide_eq_false HE2.out]; rfl
                have h1 := HD2.out _ _ hk hpb
                have h2 := HDF2.out _ hk
                rw [if_neg NZ.out] at h1 h2
                go_roundg (l.length - (i + 1))
                case measure => have := HQ.out; omega
                case rel => exact ⟨i + 1, v', M ++ [(al + 3, false)], _, rfl, by first | rfl | simp, rfl, by omega, by rw [List.length_append, HM.out]; rfl, Lib.hid h1, Lib.hid h2, RN, AN, gN, hsN⟩
        · have ke : (al == FP) = false := beq_false_of_ne he
          have ke2 : (al != FP) = true := by simp [bne, ke]
          have HDE := Lib.hid (show D = true by rw [HDC.out]; simp [he])
          clear he
          go_wp2_with fail
          refine (rIndex_any s o _ HPOS.out).mono ?_
          rintro e w4 ⟨rfl, rfl⟩
          rw [← hP.out]
          go_wp2_with fail
          have gW1 : G wr (wr.alloc (.cells #[.int .i64 t, .int .i64 s, .int .i64 al, .int .i64 o, .bool false, .int .i64 sh] 54)) := by (repeat' (first | (with_reducible exact G.refl _) | (with_reducible assumption) | (with_reducible refine G.drewN ?_ _) | (with_reducible refine G.drew ?_) | (with_reducible refine G.alloc ?_ _) | (with_reducible refine G.setCell ?_ (by first | (with_reducible exact Nat.le_refl _) | (simp; done) | (simp; omega) | omega) _) | (with_reducible refine G.trans ?_ (by assumption))))
          have hN : Hid (Nt6 (wr.alloc (.cells #[.int .i64 t, .int .i64 s, .int .i64 al, .int .i64 o, .bool false, .int .i64 sh] 54)) wr.heap.size 0 ⟨t, s, al, o, false, sh⟩) := Lib.hid (six_at (W := wr) rfl (G.refl _))
          have zc1 := gW1.at zc6
          obtain ⟨u0, u1, u2, u3, u4, u5⟩ := hN.out
          dsimp only at u0 u1 u2 u3 u4 u5
          simp only [Nat.zero_add] at u1 u2 u3 u4 u5
          have hb1 := Lib.hid (show base ≤ (wr.alloc (.cells #[.int .i64 t, .int .i64 s, .int .i64 al, .int .i64 o, .bool false, .int .i64 sh] 54)).heap.size by have := gW1.size; omega)
          generalize wr.alloc (.cells #[.int .i64 t, .int .i64 s, .int .i64 al, .int .i64 o, .bool false, .int .i64 sh] 54) = W1 at *
          generalize wr.heap.size = bn at *
          refine wp_region_held_drew (S := fun w' => w'.cell? ⟨bn, 0, none⟩ = some (.int .i64 t) ∧ w'.cell? ⟨bn, 1, none⟩ = some (.int .i64 s) ∧ w'.cell? ⟨bn, 2, none⟩ = some (.int .i64 al) ∧ w'.cell? ⟨bn, 3, none⟩ = some (.int .i64 o) ∧ w'.cell? ⟨bn, 4, none⟩ = some (.bool false) ∧ w'.cell? ⟨bn, 5, none⟩ = some (.int .i64 sh) ∧ w'.cell? ⟨gf, pn, none⟩ = some (.int .i64 FP)) (by kernel_rfl) (by ((try dsimp only); first | (with_reducible assumption) | ((repeat' (with_reducible apply And.intro)) <;> go_simp))) (fun hH0 => ?_)
          refine wpAnyH_take (i := 0) (oi := { dst := some 32, op := Go.Op.fieldAddr 54 (Go.Operand.tmp 9) 2, type := 0, pos := "ref.go:96", after := #[], guard := none }) (v := ?_) rfl (by kernel_rfl) (by kernel_rfl) (by kernel_rfl) (fun _ _ _ h => h) (Or.inl ⟨by rfl, ?_⟩) (by assumption) ?_
          rotate_left
          · (intro w hSw; (try dsimp only at hSw); go_simp) <;> (with_reducible rfl)
          simp only [Act.put, List.setIfInBounds_toArray, List.set_cons_zero, List.set_cons_succ]
          refine wpAnyH_take (i := 1) (oi := { dst := some 33, op := Go.Op.load 4 (Go.Operand.tmp 32), type := 4, pos := "ref.go:96", after := #[{ on := 0, ground := Go.Ground.data }], guard := none }) (v := ?_) rfl (by kernel_rfl) (by kernel_rfl) (by kernel_rfl) (fun _ _ _ h => h) (Or.inl ⟨by rfl, ?_⟩) (by assumption) ?_
          rotate_left
          · (intro w hSw; (try dsimp only at hSw); go_simp) <;> (with_reducible rfl)
          simp only [Act.put, List.setIfInBounds_toArray, List.set_cons_zero, List.set_cons_succ]
          refine wpAnyH_take (i := 2) (oi := { dst := some 34, op := Go.Op.unOp Go.UnOp.not 4 (Go.Operand.tmp 33), type := 4, pos := "ref.go:96", after := #[{ on := 1, ground := Go.Ground.data }], guard := none }) (v := ?_) rfl (by kernel_rfl) (by kernel_rfl) (by kernel_rfl) (fun _ _ _ h => h) (Or.inl ⟨by rfl, ?_⟩) (by assumption) ?_
          rotate_left
          · (intro w hSw; (try dsimp only at hSw); go_simp) <;> (with_reducible rfl)
          simp only [Act.put, List.setIfInBounds_toArray, List.set_cons_zero, List.set_cons_succ]
          refine wpAnyH_take (i := 3) (oi := { dst := some 35, op := Go.Op.move (Go.Operand.tmp 34), type := 4, pos := "ref.go:96", after := #[{ on := 2, ground := Go.Ground.data }], guard := none }) (v := ?_) rfl (by kernel_rfl) (by kernel_rfl) (by kernel_rfl) (fun _ _ _ h => h) (Or.inl ⟨by rfl, ?_⟩) (by assumption) ?_
          rotate_left
          · (intro w hSw; (try dsimp only at hSw); go_simp) <;> (with_reducible rfl)
          simp only [Act.put, List.setIfInBounds_toArray, List.set_cons_zero, List.set_cons_succ]
          refine wpAnyH_take (i := 4) (oi := { dst := some 36, op := Go.Op.fieldAddr 54 (Go.Operand.tmp 9) 1, type := 0, pos := "ref.go:96", after := #[{ on := 3, ground := Go.Ground.guard }], guard := some (3, true) }) (v := ?_) rfl (by kernel_rfl) (by kernel_rfl) (by kernel_rfl) (fun _ _ _ h => h) (Or.inl ⟨by rfl, ?_⟩) (by assumption) ?_
          rotate_left
          · (intro w hSw; (try dsimp only at hSw); go_simp) <;> (with_reducible rfl)
          simp only [Act.put, List.setIfInBounds_toArray, List.set_cons_zero, List.set_cons_succ]
          refine wpAnyH_take (i := 5) (oi := { dst := some 37, op := Go.Op.fieldAddr 52 (Go.Operand.tmp 36) 1, type := 0, pos := "ref.go:96", after := #[{ on := 4, ground := Go.Ground.data }, { on := 3, ground := Go.Ground.guard }], guard := some (3, true) }) (v := ?_) rfl (by kernel_rfl) (by kernel_rfl) (by kernel_rfl) (fun _ _ _ h => h) (Or.inl ⟨by rfl, ?_⟩) (by assumption) ?_
          rotate_left
          · (intro w hSw; (try dsimp only at hSw); go_simp) <;> (with_reducible rfl)
          simp only [Act.put, List.setIfInBounds_toArray, List.set_cons_zero, List.set_cons_succ]
          refine wpAnyH_take (i := 6) (oi := { dst := some 38, op := Go.Op.load 3 (Go.Operand.tmp 37), type := 3, pos := "ref.go:96", after := #[{ on := 5, ground := Go.Ground.data }, { on := 3, ground := Go.Ground.guard }], guard := some (3, true) }) (v := ?_) rfl (by kernel_rfl) (by kernel_rfl) (by kernel_rfl) (fun _ _ _ h => h) (Or.inl ⟨by rfl, ?_⟩) (by assumption) ?_
          rotate_left
          · (intro w hSw; (try dsimp only at hSw); go_simp) <;> (with_reducible rfl)
          simp only [Act.put, List.setIfInBounds_toArray, List.set_cons_zero, List.set_cons_succ]
          refine wpAnyH_take (i := 7) (oi := { dst := some 39, op := Go.Op.move (Go.Operand.tmp 6), type := 32, pos := "ref.go:96", after := #[{ on := 3, ground := Go.Ground.guard }], guard := some (3, true) }) (v := ?_) rfl (by kernel_rfl) (by kernel_rfl) (by kernel_rfl) (fun _ _ _ h => h) (Or.inl ⟨by rfl, ?_⟩) (by assumption) ?_
          rotate_left
          · (intro w hSw; (try dsimp only at hSw); go_simp) <;> (with_reducible rfl)
          simp only [Act.put, List.setIfInBounds_toArray, List.set_cons_zero, List.set_cons_succ]
          refine wpAnyH_take (i := 8) (oi := { dst := some 40, op := Go.Op.move (Go.Operand.tmp 10), type := 3, pos := "ref.go:96", after := #[{ on := 3, ground := Go.Ground.guard }], guard := some (3, true) }) (v := ?_) rfl (by kernel_rfl) (by kernel_rfl) (by kernel_rfl) (fun _ _ _ h => h) (Or.inl ⟨by rfl, ?_⟩) (by assumption) ?_
          rotate_left
          · (intro w hSw; (try dsimp only at hSw); go_simp) <;> (with_reducible rfl)
          simp only [Act.put, List.setIfInBounds_toArray, List.set_cons_zero, List.set_cons_succ]
          refine wpAnyH_take (i := 9) (oi := { dst := some 41, op := Go.Op.indexAddr 32 (Go.Operand.tmp 39) (Go.Operand.tmp 40), type := 0, pos := "ref.go:96", after := #[{ on := 7, ground := Go.Ground.data }, { on := 8, ground := Go.Ground.data }, { on := 3, ground := Go.Ground.guard }], guard := some (3, true) }) (v := ?_) rfl (by kernel_rfl) (by kernel_rfl) (by kernel_rfl) (fun _ _ _ h => h) (Or.inl ⟨by rfl, ?_⟩) (by assumption) ?_
          rotate_left
          · (intro w hSw; (try dsimp only at hSw); go_simp) <;> (with_reducible rfl)
          simp only [Act.put, List.setIfInBounds_toArray, List.set_cons_zero, List.set_cons_succ]
          refine wpAnyH_take (i := 10) (oi := { dst := some 42, op := Go.Op.load 3 (Go.Operand.tmp 41), type := 3, pos := "ref.go:96", after := #[{ on := 9, ground := Go.Ground.data }, { on := 3, ground := Go.Ground.guard }], guard := some (3, true) }) (v := ?_) rfl (by kernel_rfl) (by kernel_rfl) (by kernel_rfl) (fun _ _ _ h => h) (Or.inl ⟨by rfl, ?_⟩) (by assumption) ?_
          rotate_left
          · (intro w hSw; (try dsimp only at hSw); go_simp) <;> (with_reducible rfl)
          simp only [Act.put, List.setIfInBounds_toArray, List.set_cons_zero, List.set_cons_succ]
          refine wpAnyH_take (i := 11) (oi := { dst := some 43, op := Go.Op.binOp Go.BinOp.neq 3 (Go.Operand.tmp 38) (Go.Operand.tmp 42) 3, type := 4, pos := "ref.go:96", after := #[{ on := 6, ground := Go.Ground.data }, { on := 10, ground := Go.Ground.data }, { on := 3, ground := Go.Ground.guard }], guard := some (3, true) }) (v := ?_) rfl (by kernel_rfl) (by kernel_rfl) (by kernel_rfl) (fun _ _ _ h => h) (Or.inl ⟨by rfl, ?_⟩) (by assumption) ?_
          rotate_left
          · (intro w hSw; (try dsimp only at hSw); go_simp) <;> (with_reducible rfl)
          simp only [Act.put, List.setIfInBounds_toArray, List.set_cons_zero, List.set_cons_succ]
          refine wpAnyH_take (i := 12) (oi := { dst := some 44, op := Go.Op.pick (Go.Operand.tmp 35) (Go.Operand.tmp 43) (Go.Operand.const (Go.Value.bool false)), type := 4, pos := "ref.go:96", after := #[{ on := 3, ground := Go.Ground.data }, { on := 11, ground := Go.Ground.data }], guard := none }) (v := ?_) rfl (by kernel_rfl) (by kernel_rfl) (by kernel_rfl) (fun _ _ _ h => h) (Or.inl ⟨by rfl, ?_⟩) (by assumption) ?_
          rotate_left
          · (intro w hSw; (try dsimp only at hSw); go_simp) <;> (with_reducible rfl)
          simp only [Act.put, List.setIfInBounds_toArray, List.set_cons_zero, List.set_cons_succ]
          refine wpAnyH_take (i := 13) (oi := { dst := some 45, op := Go.Op.move (Go.Operand.tmp 44), type := 4, pos := "ref.go:96", after := #[{ on := 12, ground := Go.Ground.data }, { on := 3, ground := Go.Ground.chain }], guard := none }) (v := ?_) rfl (by kernel_rfl) (by kernel_rfl) (by kernel_rfl) (fun _ _ _ h => h) (Or.inl ⟨by rfl, ?_⟩) (by assumption) ?_
          rotate_left
          · (intro w hSw; (try dsimp only at hSw); go_simp) <;> (with_reducible rfl)
          simp only [Act.put, List.setIfInBounds_toArray, List.set_cons_zero, List.set_cons_succ]
          refine wpAnyH_take (i := 14) (oi := { dst := some 46, op := Go.Op.move (Go.Operand.tmp 1), type := 22, pos := "ref.go:96", after := #[{ on := 13, ground := Go.Ground.guard }], guard := some (13, false) }) (v := undef) rfl (by kernel_rfl) (by kernel_rfl) (by kernel_rfl) (fun _ _ _ h => h) (Or.inr ⟨by rfl, rfl⟩) (by assumption) ?_
          simp only [Act.put, List.setIfInBounds_toArray, List.set_cons_zero, List.set_cons_succ]
          refine wpAnyH_take (i := 15) (oi := { dst := some 47, op := Go.Op.move (Go.Operand.tmp 8), type := 3, pos := "ref.go:96", after := #[{ on := 13, ground := Go.Ground.guard }], guard := some (13, false) }) (v := undef) rfl (by kernel_rfl) (by kernel_rfl) (by kernel_rfl) (fun _ _ _ h => h) (Or.inr ⟨by rfl, rfl⟩) (by assumption) ?_
          simp only [Act.put, List.setIfInBounds_toArray, List.set_cons_zero, List.set_cons_succ]
          refine wpAnyH_take (i := 16) (oi := { dst := some 48, op := Go.Op.call { callee := Go.Callee.value (Go.Operand.func 22), args := #[Go.Operand.tmp 46, Go.Operand.tmp 47], argTypes := #[22, 3] }, type := 4, pos := "ref.go:96", after := #[{ on := 14, ground := Go.Ground.data }, { on := 15, ground := Go.Ground.data }, { on := 13, ground := Go.Ground.chain }, { on := 13, ground := Go.Ground.guard }], guard := some (13, false) }) (v := undef) rfl (by kernel_rfl) (by kernel_rfl) (by kernel_rfl) (fun _ _ _ h => h) (Or.inr ⟨by rfl, rfl⟩) (by assumption) ?_
          simp only [Act.put, List.setIfInBounds_toArray, List.set_cons_zero, List.set_cons_succ]
          refine wpAnyH_take (i := 17) (oi := { dst := some 49, op := Go.Op.pick (Go.Operand.tmp 45) (Go.Operand.const (Go.Value.bool true)) (Go.Operand.tmp 48), type := 4, pos := "ref.go:96", after := #[{ on := 13, ground := Go.Ground.data }, { on := 16, ground := Go.Ground.data }], guard := none }) (v := ?_) rfl (by kernel_rfl) (by kernel_rfl) (by kernel_rfl) (fun _ _ _ h => h) (Or.inl ⟨by rfl, ?_⟩) (by assumption) ?_
          rotate_left
          · (intro w hSw; (try dsimp only at hSw); go_simp) <;> (with_reducible rfl)
          simp only [Act.put, List.setIfInBounds_toArray, List.set_cons_zero, List.set_cons_succ]
          refine wpAnyH_take (i := 18) (oi := { dst := some 11, op := Go.Op.assign (Go.Operand.tmp 49), type := 4, pos := "ref.go:96", after := #[{ on := 17, ground := Go.Ground.data }, { on := 16, ground := Go.Ground.chain }, { on := 0, ground := Go.Ground.phase }, { on := 1, ground := Go.Ground.phase }, { on := 2, ground := Go.Ground.phase }, { on := 3, ground := Go.Ground.phase }, { on := 4, ground := Go.Ground.phase }, { on := 5, ground := Go.Ground.phase }, { on := 6, ground := Go.Ground.phase }, { on := 7, ground := Go.Ground.phase }, { on := 8, ground := Go.Ground.phase }, { on := 9, ground := Go.Ground.phase }, { on := 10, ground := Go.Ground.phase }, { on := 11, ground := Go.Ground.phase }, { on := 12, ground := Go.Ground.phase }, { on := 13, ground := Go.Ground.phase }, { on := 14, ground := Go.Ground.phase }, { on := 15, ground := Go.Ground.phase }, { on := 16, ground := Go.Ground.phase }, { on := 17, ground := Go.Ground.phase }], guard := none }) (v := ?_) rfl (by kernel_rfl) (by kernel_rfl) (by kernel_rfl) (fun _ _ _ h => h) (Or.inl ⟨by rfl, ?_⟩) (by assumption) ?_
          rotate_left
          · (intro w hSw; (try dsimp only at hSw); go_simp) <;> (with_reducible rfl)
          simp only [Act.put, List.setIfInBounds_toArray, List.set_cons_zero, List.set_cons_succ]
          refine wpAnyH_done (by kernel_rfl) ?_ _
          have gq : G W1 W1.drew := by (repeat' (first | (with_reducible exact G.refl _) | (with_reducible refine G.drewN ?_ _) | (with_reducible refine G.drew ?_) | (with_reducible refine G.alloc ?_ _)))
          generalize W1.drew = W4 at *
          have g4 := Lib.hid ((gr.trans gW1).trans gq)
          have R4 := Lib.hid (hR.out.later (gW1.trans gq))
          have A4 := Lib.hid (hA.out.later (gW1.trans gq))
          obtain ⟨v0, v1, v2, v3, v4, v5⟩ := hN.out.later gq
          dsimp only at v0 v1 v2 v3 v4 v5
          simp only [Nat.zero_add] at v1 v2 v3 v4 v5
          have RL := Lib.hid (Row.ltN R4.out)
          have RNE := Lib.hid (Row.ne R4.out ltf)
          have hb4 : base ≤ W4.heap.size := by have := gq.size; have := hb1.out; omega
          have l4 : gf < W4.heap.size := by omega
          obtain ⟨f4c, f4f⟩ := A4.out pn p2
          rw [← HPN.out] at f4c
          have hw4 : w.heap.size ≤ W4.heap.size := g4.out.size
          have NZ := Lib.hid (show ¬ (al + 3 = 0) from fun e => by have := HOK.out _ (List.mem_of_getElem? HP.out); obtain ⟨_, _, k, _⟩ := this; unfold AOk at k; dsimp only at k; omega)
          clear hR hA gr hN gW1 gq hbs u0 u1 u2 u3 u4 u5 zc1
          skip
          go_wp2_with (at_builtin; refine wpList_append_own _ rfl _ _ 31 rfl base 40 i0 (.agg #[.int .i64 0, .bool false]) 2 16 Tryd.underlying31 hi hz0 hz1 hz2 rfl (by decide) v M.length (M.flatMap mkE2) rfl (show Row mkE2 40 2 base _ v M from by repeat' (first | (with_reducible exact R4.out) | (with_reducible refine Row.al ?_ _) | (with_reducible refine Row.farN ?_ (by first | exact RL.out | exact RNE.out) _ _))) ⟨W4.heap.size + 1, 0, none⟩ 1 1 [.int .i64 (al + 3), .bool false] rfl rfl (new_add _ _ [.int .i64 (al + 3), .bool false] _ (by simp [go_sem])) (by simp [Value.oneCell']) (by unfold maxLen; omega) (by omega) (by simp [go_sem]; omega) ?_; intro v' w6 hown' hgrow _)
          have RN := Lib.hid (Row.more (enc := mkE2) (M := M) (x := (al + 3, false)) hown')
          have AN : Hid (Arr w6 gf (upd F P al)) := Lib.hid (Arr.grown (row := v.ownBlock) (by repeat' (first | (with_reducible exact A4.out) | (with_reducible refine Arr.al ?_ _) | (with_reducible refine Arr.setN ?_ HPN.out p2 _) | (with_reducible refine Arr.farC ?_ (by omega) _ _))) hgrow RNE.out)
          have gN : G w w6 := by
            refine Below.grown (B := w.heap.size) ?_ hgrow ?_ (fun k hk => by have := Row.own R4.out k hk; omega)
            · have gw4 := g4.out
              show G w _
              (repeat' (first | (with_reducible exact G.refl _) | (with_reducible assumption) | (with_reducible refine G.drewN ?_ _) | (with_reducible refine G.drew ?_) | (with_reducible refine G.alloc ?_ _) | (with_reducible refine G.setCell ?_ (by first | (with_reducible exact Nat.le_refl _) | (simp; done) | (simp; omega) | omega) _) | (with_reducible refine G.trans ?_ (by assumption))))
            · simp [go_sem]; omega
          have hsN : base ≤ w6.heap.size := by have := hgrow.size; simp [go_sem] at this; omega
          have hk : mK D ⟨t, s, al, o, false, sh⟩ = al + 3 := by rw [HDE.out]; exact if_neg (fun k => by cases k.1)
          have hpb : mP D ⟨t, s, al, o, false, sh⟩ = false := by rw [HDE.out]; rfl
          have h1 := HD2.out _ _ hk hpb
          have h2 := HDF2.out _ hk
          rw [if_neg NZ.out] at h1 h2
          go_roundg (l.length - (i + 1))
          case measure => have := HQ.out; omega
          case rel => exact ⟨i + 1, v', M ++ [(al + 3, false)], _, rfl, by first | rfl | simp, rfl, by omega, by rw [List.length_append, HM.out]; rfl, Lib.hid h1, Lib.hid h2, RN, AN, gN, hsN⟩
    · have hii : i = l.length := by omega
      subst hii
      have HV := Lib.hid (show M = disp f l by rw [← hD.out, List.drop_length]; simp [dsM])
      have HFE := Lib.hid (show F = carr f l by rw [← hDF.out, List.drop_length]; rfl)
      go_wp2_with fail
      go_returns
      refine ⟨_, gf, cap, rfl, ?_, hgf', hcap, by rw [← HFE.out]; exact hA.out, gr⟩
      rw [← HV.out]
      exact own_base hR.out (by have := hbase.out; have := g1.size; omega)
end Go.Proofs.YtghlecocnflbnaaDoor
