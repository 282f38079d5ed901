import Derived.Test.YtghlecocnflbnaaDoorA3
import Derived.Laws.MakeOwn
import Derived.WalkMore
/-! Accidentals: which notes clash. -/
namespace Go.Proofs.YtghlecocnflbnaaDoor
open Go.RowKit
attribute [local go_sem] World.cell?_alloc_some

theorem Nt6.far {w : World} {b o : Nat} {n : Nt} (h : Nt6 w b o n) {g : Nat} (hg : g ≠ b) (k : Nat) (v : Value) : Nt6 (w.setCell ⟨g, k, none⟩ v) b o n := by
  obtain ⟨h0, h1, h2, h3, h4, h5⟩ := h
  refine ⟨?_, ?_, ?_, ?_, ?_, ?_⟩ <;> (rw [World.cell?_setCell_far _ _ _ _ hg]; assumption)
/-- a block of bools that may be written -/
def Cls (w : World) (g n : Nat) (h : Nat → Bool) : Prop := ∀ k, k < n → w.cell? ⟨g, k, none⟩ = some (.bool (h k)) ∧ w.frozen? ⟨g, k, none⟩ = false
theorem Cls.later {w w' : World} {g n : Nat} {h : Nat → Bool} (c : Cls w g n h) (k : G w w') : Cls w' g n h := fun j hj =>
  ⟨k.at (c j hj).1, (k.frozen (cell_lt (c j hj).1)).trans (c j hj).2⟩
def setB (h : Nat → Bool) (k : Nat) : Nat → Bool := fun q => if q = k then true else h q
theorem Cls.set {w : World} {g n : Nat} {h : Nat → Bool} (c : Cls w g n h) (k : Nat) (hk : k < n) : Cls (w.setCell ⟨g, k, none⟩ (.bool true)) g n (setB h k) := fun j hj => by
  unfold setB
  by_cases e : j = k
  · subst e
    refine ⟨?_, by simp [go_sem]; exact (c _ hj).2⟩
    rw [World.cell?_setCell_same _ _ _ (c _ hj).1, if_pos rfl]
  · refine ⟨?_, by simp [go_sem]; exact (c _ hj).2⟩
    rw [World.cell?_setCell_other _ _ _ _ (by simp only [ne_eq, Addr.mk.injEq]; omega), (c _ hj).1, if_neg e]
theorem Cls.new (w : World) (n : Nat) (t : TypeId) : Cls (w.alloc (.cells (madeCells #[.bool false] n) t)) w.heap.size n (fun _ => false) := fun k hk => by
  refine ⟨?_, by simp [go_sem]⟩
  have h : (madeCells #[.bool false] n)[k]? = some (.bool false) := by
    unfold madeCells
    simp [hk, Nat.mod_one]
  simp [h]
theorem bInfo : (Tryd.prog.info? 4).map (fun i => (i.zero, i.size, i.bytes)) = some (some (.bool false), 1, 1) := by kernel_rfl
theorem info_parts' {P : Program} {t : TypeId} {z : Value} {s b : Nat} (h : (P.info? t).map (fun i => (i.zero, i.size, i.bytes)) = some (some z, s, b)) : ∃ i, P.info? t = some i ∧ i.zero = some z ∧ i.size = s ∧ i.bytes = b := by
  cases hi : P.info? t with
  | none => rw [hi] at h; cases h
  | some i =>
    rw [hi] at h
    simp only [Option.map_some, Option.some.injEq, Prod.mk.injEq] at h
    exact ⟨i, rfl, h.1, h.2.1, h.2.2⟩
theorem make_bools (n : Nat) (hn : n ≤ 1000000) (w : World) : (Instr.makeSlice 76 (.int .i64 n) (.int .i64 n)).run Tryd.prog w = .ok (.slice (some ⟨w.heap.size, 0, none⟩) n n) (w.alloc (.cells (madeCells #[.bool false] n) 4)) := by
  obtain ⟨i, hi, hz, hs, hb⟩ := info_parts' bInfo
  have h := run_make (P := Tryd.prog) w 76 4 i _ Tryd.underlying76 hi hz .i64 .i64 n n (by omega) (Int.le_refl _) (by rw [hb]; omega) (by omega)
  rw [hs] at h
  simpa [Value.cells] using h
/-- which pairs were seen -/
def Hits (l : List Nt) (i j : Nat) (h : Nat → Bool) : Prop := ∀ k, h k = true ↔ hit l i j k

set_option maxRecDepth 100000 in
set_option maxHeartbeats 6400000 in
theorem clashes_any (a : Option Addr) (l : List Nt) (n c : Nat) (w : World) (hn : l.length = n) (hl : n ≤ 2560) (h1 : NtsAt w a l) (hs : Srt l) :
    Calls Tryd.prog 37 #[.slice a n c] w fun e w' => e = .returned (.slice (some ⟨w.heap.size, 0, none⟩) n n) ∧ G w w' ∧ ∃ h, Hits l n 0 h ∧ Cls w' w.heap.size n h := by
  subst hn
  have H1 := Lib.hid h1
  have HS := Lib.hid hs
  clear h1 hs
  have hmk := make_bools l.length (by omega)
  go_enter Tryd.func37, Tryd.ntmps37
  go_wp2_with fail
  have c0 := Lib.hid (Cls.new w l.length 4)
  have g0 : G w (w.alloc (.cells (madeCells #[.bool false] l.length) 4)) := by (repeat' (first | (with_reducible exact G.refl _) | (with_reducible assumption) | (with_reducible refine G.drewN ?_ _) | (with_reducible refine G.drew ?_) | (with_reducible refine G.alloc ?_ _) | (with_reducible refine G.setCell ?_ (by first | (with_reducible exact Nat.le_refl _) | (simp; done) | (simp; omega) | omega) _) | (with_reducible refine G.trans ?_ (by assumption))))
  clear hmk
  generalize w.alloc (.cells (madeCells #[.bool false] l.length) 4) = W at *
  have hsz : w.heap.size = w.heap.size := rfl
  obtain ⟨g, hg⟩ : ∃ z : Nat, Hid (w.heap.size = z) := ⟨_, rfl⟩
  rw [hg.out] at c0 ⊢
  have HG := hg
  clear hsz
  go_loopg [13] l.length (fun q x wr => ∃ (i : Nat) (h : Nat → Bool), x = .int .i64 i ∧ q = l.length - i ∧ i ≤ l.length ∧ Hid (Hits l i 0 h) ∧ Hid (Cls wr g l.length h) ∧ G w wr)
  case atStart => exact ⟨0, fun _ => false, rfl, by omega, by omega, Lib.hid (fun k => ⟨fun e => (by cases e), fun e => absurd e (hit_none l k)⟩), c0, g0⟩
  case round =>
    obtain ⟨i, h, rfl, hq, hi, hH, hC, gr⟩ := hrel
    have HQ := Lib.hid hq
    clear hq
    by_cases hin : i < l.length
    · obtain ⟨⟨t, s, al, o, hd, sh⟩, hp⟩ : ∃ c, l[i]? = some c := ⟨l[i], List.getElem?_eq_getElem hin⟩
      rcases H1.out with hz | ⟨bl, of, rfl, fc⟩
      · rw [hz] at hin; exact absurd hin (by simp)
      obtain ⟨x0, x1, x2, x3, x4, x5⟩ := (fc i _ hp).later gr
      dsimp only at x0 x1 x2 x3 x4 x5
      have HP := Lib.hid hp
      have FC := Lib.hid fc
      clear fc hp
      have b1 : (0 : Int) ≤ (i : Int) := by omega
      have b2 : (i : Int) < (l.length : Int) := by omega
      have q1 := IntWalk.i64_in ((i : Int) + 1) (by omega)
      go_wp2_with fail
      have gr1 : G w (wr.alloc (.cells #[.int .i64 t, .int .i64 s, .int .i64 al, .int .i64 o, .bool hd, .int .i64 sh] 65)) := by (repeat' (first | (with_reducible exact G.refl _) | (with_reducible assumption) | (with_reducible refine G.drewN ?_ _) | (with_reducible refine G.drew ?_) | (with_reducible refine G.alloc ?_ _) | (with_reducible refine G.setCell ?_ (by first | (with_reducible exact Nat.le_refl _) | (simp; done) | (simp; omega) | omega) _) | (with_reducible refine G.trans ?_ (by assumption))))
      have hC1 := Lib.hid (hC.out.later (show G wr (wr.alloc (.cells #[.int .i64 t, .int .i64 s, .int .i64 al, .int .i64 o, .bool hd, .int .i64 sh] 65)) by (repeat' (first | (with_reducible exact G.refl _) | (with_reducible assumption) | (with_reducible refine G.drewN ?_ _) | (with_reducible refine G.drew ?_) | (with_reducible refine G.alloc ?_ _) | (with_reducible refine G.setCell ?_ (by first | (with_reducible exact Nat.le_refl _) | (simp; done) | (simp; omega) | omega) _) | (with_reducible refine G.trans ?_ (by assumption))))))
      have hx1 : Hid (Nt6 (wr.alloc (.cells #[.int .i64 t, .int .i64 s, .int .i64 al, .int .i64 o, .bool hd, .int .i64 sh] 65)) wr.heap.size 0 ⟨t, s, al, o, hd, sh⟩) := Lib.hid (six_at (W := wr) rfl (G.refl _))
      have hgb : g ≤ wr.heap.size := by have := gr.size; have := HG.out; omega
      have hgl : g < wr.heap.size := by
        have := cell_lt (hC.out i hin).1
        exact this
      clear hgb
      generalize wr.alloc (.cells #[.int .i64 t, .int .i64 s, .int .i64 al, .int .i64 o, .bool hd, .int .i64 sh] 65) = W1 at *
      generalize hba : wr.heap.size = ba at *
      clear hba gr hC x0 x1 x2 x3 x4 x5
      go_step3
      go_wp2_with fail
      go_step3
      go_wp2_with fail
      go_loopg [6] (l.length - (i + 1)) (fun q x wr => ∃ (j : Nat) (h : Nat → Bool), x = .int .i64 j ∧ q = l.length - j ∧ i < j ∧ j ≤ l.length ∧ Hid (Hits l i j h) ∧ Hid (Cls wr g l.length h) ∧ Hid (Nt6 wr ba 0 ⟨t, s, al, o, hd, sh⟩) ∧ G w wr)
      case atStart => exact ⟨i + 1, h, by first | rfl | simp, rfl, by omega, by omega, Lib.hid (fun k => (hH.out k).trans hit_start.symm), hC1, hx1, gr1⟩
      case round =>
        clear hC1 hx1 gr1 hH h
        obtain ⟨j, h, rfl, hq2, hij, hj, hH, hC, hx, gr⟩ := hrel
        have HQ2 := Lib.hid hq2
        clear hq2
        by_cases hjn : j < l.length
        · obtain ⟨⟨t', s', al', o', hd', sh'⟩, hp'⟩ : ∃ c, l[j]? = some c := ⟨l[j], List.getElem?_eq_getElem hjn⟩
          obtain ⟨x0, x1, x2, x3, x4, x5⟩ := (FC.out j _ hp').later gr
          dsimp only at x0 x1 x2 x3 x4 x5
          obtain ⟨y0, y1, y2, y3, y4, y5⟩ := hx.out
          dsimp only at y0 y1 y2 y3 y4 y5
          simp only [Nat.zero_add] at y1 y2 y3 y4 y5
          have HP' := Lib.hid hp'
          clear hp'
          have b3 : (0 : Int) ≤ (j : Int) := by omega
          have b4 : (j : Int) < (l.length : Int) := by omega
          have q2 := IntWalk.i64_in ((j : Int) + 1) (by omega)
          by_cases et : t = t'
          · have k1 : (t == t') = true := by rw [et]; simp
            have k1' : (t != t') = false := by simp [bne, k1]
            by_cases hdif : dif ⟨t, s, al, o, hd, sh⟩ ⟨t', s', al', o', hd', sh'⟩ = true
            · have hdd := of_decide_eq_true hdif
              dsimp only at hdd
              have k2 : (s == s') = true := by rw [hdd.2.1]; simp
              have k3 : (o == o') = true := by rw [hdd.2.2.1]; simp
              have k4 : (al == al') = false := beq_false_of_ne (fun e => hdd.2.2.2 e.symm)
              have k4' : (al != al') = true := by simp [bne, k4]
              have HD := Lib.hid hdif
              clear hdd hdif et
              have hgl2 : g < wr.heap.size := cell_lt (hC.out i hin).1
              have C2 := Lib.hid ((hC.out.set i hin).later (show G (wr.setCell ⟨g, i, none⟩ (.bool true)) ((wr.setCell ⟨g, i, none⟩ (.bool true)).alloc (.cells #[.int .i64 t', .int .i64 s', .int .i64 al', .int .i64 o', .bool hd', .int .i64 sh'] 65)) by (repeat' (first | (with_reducible exact G.refl _) | (with_reducible assumption) | (with_reducible refine G.drewN ?_ _) | (with_reducible refine G.drew ?_) | (with_reducible refine G.alloc ?_ _) | (with_reducible refine G.setCell ?_ (by first | (with_reducible exact Nat.le_refl _) | (simp; done) | (simp; omega) | omega) _) | (with_reducible refine G.trans ?_ (by assumption))))))
              have C3 := Lib.hid (((hC.out.set i hin).set j hjn).later (show G ((wr.setCell ⟨g, i, none⟩ (.bool true)).setCell ⟨g, j, none⟩ (.bool true)) (((wr.setCell ⟨g, i, none⟩ (.bool true)).setCell ⟨g, j, none⟩ (.bool true)).alloc (.cells #[.int .i64 t', .int .i64 s', .int .i64 al', .int .i64 o', .bool hd', .int .i64 sh'] 65)) by (repeat' (first | (with_reducible exact G.refl _) | (with_reducible assumption) | (with_reducible refine G.drewN ?_ _) | (with_reducible refine G.drew ?_) | (with_reducible refine G.alloc ?_ _) | (with_reducible refine G.setCell ?_ (by first | (with_reducible exact Nat.le_refl _) | (simp; done) | (simp; omega) | omega) _) | (with_reducible refine G.trans ?_ (by assumption))))))
              have N1 := Lib.hid (((hx.out.far (g := g) (by omega) i (.bool true)).far (g := g) (by omega) j (.bool true)).later (show G ((wr.setCell ⟨g, i, none⟩ (.bool true)).setCell ⟨g, j, none⟩ (.bool true)) (((wr.setCell ⟨g, i, none⟩ (.bool true)).setCell ⟨g, j, none⟩ (.bool true)).alloc (.cells #[.int .i64 t', .int .i64 s', .int .i64 al', .int .i64 o', .bool hd', .int .i64 sh'] 65)) by (repeat' (first | (with_reducible exact G.refl _) | (with_reducible assumption) | (with_reducible refine G.drewN ?_ _) | (with_reducible refine G.drew ?_) | (with_reducible refine G.alloc ?_ _) | (with_reducible refine G.setCell ?_ (by first | (with_reducible exact Nat.le_refl _) | (simp; done) | (simp; omega) | omega) _) | (with_reducible refine G.trans ?_ (by assumption))))))
              have hHn := Lib.hid (show Hits l i (j + 1) (setB (setB h i) j) by
                intro k
                rw [hit_yes hij HP.out HP'.out HD.out, ← hH.out k]
                unfold setB
                by_cases e1 : k = j
                · rw [if_pos e1]; exact ⟨fun _ => .inr (.inr e1), fun _ => rfl⟩
                · rw [if_neg e1]
                  by_cases e2 : k = i
                  · rw [if_pos e2]; exact ⟨fun _ => .inr (.inl e2), fun _ => rfl⟩
                  · rw [if_neg e2]; exact ⟨.inl, fun z => z.elim id (fun z => absurd z (by omega))⟩)
              have gN := Lib.hid (((gr.setCell (p := ⟨g, i, none⟩) (by have := HG.out; show w.heap.size ≤ g; omega) (.bool true)).setCell (p := ⟨g, j, none⟩) (by have := HG.out; show w.heap.size ≤ g; omega) (.bool true)).alloc (.cells #[.int .i64 t', .int .i64 s', .int .i64 al', .int .i64 o', .bool hd', .int .i64 sh'] 65))
              obtain ⟨c1, f1⟩ := hC.out i hin
              obtain ⟨c2, f2⟩ := C2.out j hjn
              go_wp2_with fail
              go_roundg (l.length - (j + 1))
              case measure => have := HQ2.out; omega
              case rel => exact ⟨j + 1, _, by first | rfl | simp, rfl, by omega, by omega, hHn, C3, N1, gN.out⟩
            · have hdf : dif ⟨t, s, al, o, hd, sh⟩ ⟨t', s', al', o', hd', sh'⟩ = false := by simpa using hdif
              have hHn := Lib.hid (show Hits l i (j + 1) h from fun k => (hH.out k).trans (hit_no HP.out HP'.out hdf).symm)
              have hdd := of_decide_eq_false hdf
              dsimp only at hdd
              have gA : G wr (wr.alloc (.cells #[.int .i64 t', .int .i64 s', .int .i64 al', .int .i64 o', .bool hd', .int .i64 sh'] 65)) := by (repeat' (first | (with_reducible exact G.refl _) | (with_reducible assumption) | (with_reducible refine G.drewN ?_ _) | (with_reducible refine G.drew ?_) | (with_reducible refine G.alloc ?_ _) | (with_reducible refine G.setCell ?_ (by first | (with_reducible exact Nat.le_refl _) | (simp; done) | (simp; omega) | omega) _) | (with_reducible refine G.trans ?_ (by assumption))))
              have C1 := Lib.hid (hC.out.later gA)
              have N1 := Lib.hid (hx.out.later gA)
              have gN := Lib.hid (gr.trans gA)
              clear hdif hdf
              by_cases e1 : s = s'
              · have k2 : (s == s') = true := by rw [e1]; simp
                by_cases e2 : o = o'
                · have k3 : (o == o') = true := by rw [e2]; simp
                  have k4 : (al == al') = true := by
                    have : al = al' := Decidable.byContradiction fun z => hdd ⟨et.symm, e1.symm, e2.symm, fun e => z e.symm⟩
                    rw [this]; simp
                  have k4' : (al != al') = false := by simp [bne, k4]
                  clear hdd et e1 e2
                  go_wp2_with fail
                  go_roundg (l.length - (j + 1))
                  case measure => have := HQ2.out; omega
                  case rel => exact ⟨j + 1, _, by first | rfl | simp, rfl, by omega, by omega, hHn, C1, N1, gN.out⟩
                · have k3 : (o == o') = false := beq_false_of_ne e2
                  clear hdd et e1 e2
                  go_wp2_with fail
                  go_roundg (l.length - (j + 1))
                  case measure => have := HQ2.out; omega
                  case rel => exact ⟨j + 1, _, by first | rfl | simp, rfl, by omega, by omega, hHn, C1, N1, gN.out⟩
              · have k2 : (s == s') = false := beq_false_of_ne e1
                clear hdd et e1
                go_wp2_with fail
                go_roundg (l.length - (j + 1))
                case measure => have := HQ2.out; omega
                case rel => exact ⟨j + 1, _, by first | rfl | simp, rfl, by omega, by omega, hHn, C1, N1, gN.out⟩
          · have k1 : (t == t') = false := beq_false_of_ne et
            have k1' : (t != t') = true := by simp [bne, k1]
            have gA : G wr (wr.alloc (.cells #[.int .i64 t', .int .i64 s', .int .i64 al', .int .i64 o', .bool hd', .int .i64 sh'] 65)) := by (repeat' (first | (with_reducible exact G.refl _) | (with_reducible assumption) | (with_reducible refine G.drewN ?_ _) | (with_reducible refine G.drew ?_) | (with_reducible refine G.alloc ?_ _) | (with_reducible refine G.setCell ?_ (by first | (with_reducible exact Nat.le_refl _) | (simp; done) | (simp; omega) | omega) _) | (with_reducible refine G.trans ?_ (by assumption))))
            have C1 := Lib.hid (hC.out.later gA)
            have gN := Lib.hid (gr.trans gA)
            have hHn := Lib.hid (show Hits l (i + 1) 0 h from fun k => (hH.out k).trans (hit_break HS.out hij HP.out HP'.out et).symm)
            clear et
            go_wp2_with fail
            rw [Exit.noGoto_normal]
            go_wp2_with fail
            go_roundg (l.length - (i + 1))
            case measure => have := HQ.out; omega
            case rel => exact ⟨i + 1, _, by first | rfl | simp, rfl, by omega, hHn, C1, gN.out⟩
        · have hHn := Lib.hid (show Hits l (i + 1) 0 h from fun k => (hH.out k).trans (hit_end (by omega)).symm)
          have hnj : ¬ ((j : Int) < (l.length : Int)) := by omega
          go_wp2_with fail
          go_roundg (l.length - (i + 1))
          case measure => have := HQ.out; omega
          case rel => exact ⟨i + 1, _, by first | rfl | simp, rfl, by omega, hHn, hC, gr⟩
    · have hii : i = l.length := by omega
      subst hii
      go_wp2_with fail
      go_ret
      exact ⟨by rw [HG.out]; rfl, gr, h, hH.out, by rw [HG.out]; exact hC.out⟩
end Go.Proofs.YtghlecocnflbnaaDoor
