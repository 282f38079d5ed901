import Derived.Test.YtghlecocnflbnaaDoorA1
import Derived.Deep.MidRow
import Derived.Laws.EntriesVeiled
/-! Accidentals: the alterations of all staff positions; the signature's. -/
namespace Go.Proofs.YtghlecocnflbnaaDoor
open Go.RowKit
attribute [local go_sem] World.cell?_alloc_some

def zc : Array Value := #[.int .i64 0, .int .i64 0, .int .i64 0, .int .i64 0, .int .i64 0, .int .i64 0, .int .i64 0, .int .i64 0, .int .i64 0, .int .i64 0, .int .i64 0, .int .i64 0, .int .i64 0, .int .i64 0, .int .i64 0, .int .i64 0, .int .i64 0, .int .i64 0, .int .i64 0, .int .i64 0, .int .i64 0, .int .i64 0, .int .i64 0, .int .i64 0, .int .i64 0, .int .i64 0, .int .i64 0, .int .i64 0, .int .i64 0, .int .i64 0, .int .i64 0, .int .i64 0, .int .i64 0, .int .i64 0, .int .i64 0, .int .i64 0, .int .i64 0, .int .i64 0, .int .i64 0, .int .i64 0, .int .i64 0, .int .i64 0, .int .i64 0, .int .i64 0, .int .i64 0, .int .i64 0, .int .i64 0, .int .i64 0, .int .i64 0, .int .i64 0, .int .i64 0, .int .i64 0, .int .i64 0, .int .i64 0, .int .i64 0, .int .i64 0, .int .i64 0, .int .i64 0, .int .i64 0, .int .i64 0, .int .i64 0, .int .i64 0, .int .i64 0, .int .i64 0, .int .i64 0, .int .i64 0, .int .i64 0, .int .i64 0, .int .i64 0, .int .i64 0, .int .i64 0, .int .i64 0, .int .i64 0, .int .i64 0, .int .i64 0, .int .i64 0, .int .i64 0]
theorem zc_rep : zc = Array.replicate 77 (.int .i64 0) := by kernel_rfl
theorem zc_zero (w : World) : Sem.run Tryd.prog (zeroValue 58) w = .ok (.agg zc) w := by kernel_rfl
theorem zc_ex : ∃ Z : Array Value, (∀ w : World, Sem.run Tryd.prog (zeroValue 58) w = .ok (.agg Z) w) ∧ Z.size = 77 ∧ ¬ Z = #[] ∧ ∀ j, j < 77 → Z[j]? = some (.int .i64 0) := by
  refine ⟨zc, zc_zero, by rw [zc_rep]; simp, by rw [zc_rep]; intro h; have := congrArg Array.size h; simp at this, fun j hj => ?_⟩
  rw [zc_rep]
  simp [hj]
/-- a block holds the alterations of all positions, and may be written -/
def Arr (w : World) (b : Nat) (F : Int → Int) : Prop := ∀ j : Nat, j < 77 → w.cell? ⟨b, j, none⟩ = some (.int .i64 (F j)) ∧ w.frozen? ⟨b, j, none⟩ = false
theorem Arr.later {w w' : World} {b : Nat} {F : Int → Int} (h : Arr w b F) (g : G w w') : Arr w' b F := fun j hj =>
  ⟨g.at (h j hj).1, (g.frozen (cell_lt (h j hj).1)).trans (h j hj).2⟩
theorem Arr.new (w : World) {Z : Array Value} (hz : ∀ j, j < 77 → Z[j]? = some (.int .i64 0)) (t : TypeId) : Arr (w.alloc (.cells Z t)) w.heap.size (fun _ => 0) := fun j hj => by
  refine ⟨?_, by simp [go_sem]⟩
  have := hz j hj
  simp [this]
theorem Arr.set {w : World} {b : Nat} {F : Int → Int} (h : Arr w b F) {c : Int} (h0 : 0 ≤ c) (h1 : c < 77) (v : Int) : Arr (w.setCell ⟨b, c.toNat, none⟩ (.int .i64 v)) b (upd F c v) := fun j hj => by
  by_cases e : j = c.toNat
  · subst e
    refine ⟨?_, by simp [go_sem]; exact (h _ hj).2⟩
    rw [World.cell?_setCell_same _ _ _ (h _ hj).1, show ((c.toNat : Nat) : Int) = c by omega, upd_same]
  · refine ⟨?_, by simp [go_sem]; exact (h _ hj).2⟩
    rw [World.cell?_setCell_other _ _ _ _ (by simp only [ne_eq, Addr.mk.injEq]; omega), (h _ hj).1, upd_other (by omega)]
theorem Arr.congr {w : World} {b : Nat} {F K : Int → Int} (h : Arr w b F) (e : ∀ j : Nat, j < 77 → F j = K j) : Arr w b K := fun j hj => by
  rw [← e j hj]; exact h j hj
/-- the cells, in order -/
def arrL (F : Int → Int) : List Value := (List.range 77).map fun j : Nat => .int .i64 (F j)
theorem arrL_len (F : Int → Int) : (arrL F).length = 77 := by simp [arrL]
theorem arrL_at (F : Int → Int) {j : Nat} (h : j < 77) : (arrL F)[j]? = some (.int .i64 (F j)) := by simp [arrL, h]
theorem arrL_one (F : Int → Int) : (arrL F).toArray.all (·.oneCell') = true := all_oneCell_toArray fun v hv => by
  obtain ⟨j, _, rfl⟩ := List.mem_map.1 hv
  rfl
theorem Arr.range {w : World} {b : Nat} {F : Int → Int} (h : Arr w b F) : w.rangeAt b 0 (arrL F) := fun j v hv => by
  have hj : j < 77 := by have := (List.getElem?_eq_some_iff.1 hv).1; rwa [arrL_len] at this
  rw [arrL_at F hj] at hv
  rw [Nat.zero_add, ← Option.some.inj hv]
  exact (h j hj).1
theorem Arr.there {w : World} {b : Nat} {F : Int → Int} (h : Arr w b F) : w.there b 0 77 := fun j hj => by
  rw [Nat.zero_add, (h j hj).1]
  exact ⟨rfl, (h j hj).2⟩
theorem Arr.stored {w : World} {b : Nat} {K : Int → Int} (h : Arr w b K) (F : Int → Int) : Arr (w.setCells b 0 (arrL F)) b F := fun j hj => by
  have hr := World.rangeAt_setCells_same w b 0 (arrL F) (by rw [arrL_len]; exact h.there)
  have := hr j _ (arrL_at F hj)
  rw [Nat.zero_add] at this
  refine ⟨this, ?_⟩
  rw [World.frozen?_setCells]; exact (h j hj).2
theorem G.setCells {a : World} (b : Nat) (hb : a.heap.size ≤ b) : ∀ (vs : List Value) (o : Nat) {w : World}, G a w → G a (w.setCells b o vs)
  | [], _, _, h => h
  | v :: r, o, _, h => by
    rw [World.setCells]
    exact G.setCells b hb r (o + 1) (h.setCell hb v)
theorem aInfo : (Tryd.prog.info? 58).map (·.size) = some 77 := by kernel_rfl
theorem size_setCells (b : Nat) : ∀ (vs : List Value) (o : Nat) (w : World), (w.setCells b o vs).heap.size = w.heap.size
  | [], _, _ => rfl
  | v :: r, o, w => by
    rw [World.setCells, size_setCells b r (o + 1)]
    simp [go_sem]

theorem results_cell1 {fn : Func} {p : Tmp} {ty : TypeId} {P : Program} {v : Value} (h : fn.results = #[.cell p ty]) (tmps : Array Value) (w : World) (a : Addr) (ha : tmps.getD p undef = .pointer (some a)) (hl : (loadVar ty a).run P w = .ok v w) :
    (results fn tmps).run P w = .ok v w := by
  rw [Array.getD_eq_getD_getElem?] at ha
  simp only [results, h]
  simp [asAddr, ha, hl]
theorem results_tmp_cell {fn : Func} {p u : Tmp} {ty : TypeId} {P : Program} {v : Value} (h : fn.results = #[.tmp u, .cell p ty]) (tmps : Array Value) (w : World) (a : Addr) (ha : tmps.getD p undef = .pointer (some a)) (hl : (loadVar ty a).run P w = .ok v w) :
    (results fn tmps).run P w = .ok (.tuple #[tmps.getD u undef, v]) w := by
  rw [Array.getD_eq_getD_getElem?] at ha
  simp only [results, h]
  simp [Result.andThen, asAddr, ha, hl]
theorem results_cell_tmp' {fn : Func} {p u : Tmp} {ty : TypeId} {P : Program} {v : Value} (h : fn.results = #[.cell p ty, .tmp u]) (tmps : Array Value) (w : World) (a : Addr) (ha : tmps.getD p undef = .pointer (some a)) (hl : (loadVar ty a).run P w = .ok v w) :
    (results fn tmps).run P w = .ok (.tuple #[v, tmps.getD u undef]) w := by
  rw [Array.getD_eq_getD_getElem?] at ha
  simp only [results, h]
  simp [Result.andThen, asAddr, ha, hl]
def sgK (f : Int) (k : Nat) : Int → Int := fun p => if p < k then sg0 f p else 0
theorem sgK_next (f : Int) (k : Nat) : ∀ j : Nat, upd (sgK f k) k (sg0 f k) j = sgK f (k + 1) j := fun j => by
  unfold upd sgK
  by_cases e : (j : Int) = k
  · rw [if_pos e, if_pos (by omega), e]
  · rw [if_neg e]
    by_cases l : (j : Int) < k
    · rw [if_pos l, if_pos (by omega)]
    · rw [if_neg l, if_neg (by omega)]
set_option maxRecDepth 100000 in
set_option maxHeartbeats 3200000 in
theorem signature_any (f : Int) (w : World) (hf : Sg f) (hT : Tab w) : Calls Tryd.prog 32 #[.int .i64 f] w fun e w' => e = .returned (.agg (arrL (sg0 f)).toArray) ∧ G w w' := by
  have HT := Lib.hid hT
  have HF := Lib.hid hf
  clear hT hf
  obtain ⟨Z, hZ, hZs, hZn, hZc⟩ := zc_ex
  have HZ := Lib.hid hZc
  clear hZc
  go_enter Tryd.func32, Tryd.ntmps32
  go_wp2_with fail
  have a0 := Lib.hid (Arr.new w HZ.out 58)
  have a1 := Lib.hid (Arr.new (w.alloc (.cells Z 58)) HZ.out 58)
  have g1 : G w ((w.alloc (.cells Z 58)).alloc (.cells Z 58)) := by (repeat' (first | (with_reducible exact G.refl _) | (with_reducible assumption) | (with_reducible refine G.drewN ?_ _) | (with_reducible refine G.drew ?_) | (with_reducible refine G.alloc ?_ _) | (with_reducible refine G.setCell ?_ (by first | (with_reducible exact Nat.le_refl _) | (simp; done) | (simp; omega) | omega) _) | (with_reducible refine G.trans ?_ (by assumption))))
  have a2 := Lib.hid (a0.out.later (show G (w.alloc (.cells Z 58)) ((w.alloc (.cells Z 58)).alloc (.cells Z 58)) by (repeat' (first | (with_reducible exact G.refl _) | (with_reducible assumption) | (with_reducible refine G.drewN ?_ _) | (with_reducible refine G.drew ?_) | (with_reducible refine G.alloc ?_ _) | (with_reducible refine G.setCell ?_ (by first | (with_reducible exact Nat.le_refl _) | (simp; done) | (simp; omega) | omega) _) | (with_reducible refine G.trans ?_ (by assumption))))))
  have hB : (w.alloc (.cells Z 58)).heap.size = w.heap.size + 1 := by simp
  rw [hB] at a1
  clear a0 hB
  generalize (w.alloc (.cells Z 58)).alloc (.cells Z 58) = W at *
  have gsz := g1.size
  go_loopg [5] 77 (fun g x wr => ∃ k : Nat, x = .int .i64 k ∧ g = 77 - k ∧ k ≤ 77 ∧ Hid (Arr wr (w.heap.size + 1) (sgK f k)) ∧ Hid (Arr wr w.heap.size (fun _ => 0)) ∧ G w wr)
  case atStart => exact ⟨0, rfl, rfl, by omega, Lib.hid (a1.out.congr (fun j hj => by unfold sgK; rw [if_neg (by omega)])), a2, g1⟩
  case round =>
    obtain ⟨k, rfl, hg, hk, hA, hA2, gr⟩ := hrel
    have HG := Lib.hid hg
    clear hg
    by_cases hin : k < 77
    · have b1 : (0 : Int) ≤ (k : Int) := by omega
      have b2 : (k : Int) < 77 := by omega
      have q1 := IntWalk.i64_in ((k : Int) + 1) (by omega)
      have q2 : (k : Int).tmod 7 = (k : Int) % 7 := Int.tmod_eq_emod_of_nonneg b1
      obtain ⟨m, hm⟩ : ∃ z : Int, Hid (z = (k : Int) % 7) := ⟨_, rfl⟩
      have HM := Lib.hid (show 0 ≤ m ∧ m ≤ 6 by rw [hm.out]; omega)
      have HV := Lib.hid (show alV f m = sg0 f k ∧ alE f m = 0 by
        unfold alV alE sg0
        rw [if_pos ⟨HF.out, HM.out⟩, if_pos HF.out, if_pos HM.out, hm.out]; exact ⟨rfl, rfl⟩)
      obtain ⟨c1, f1⟩ := hA.out k hin
      have HA' := Lib.hid ((hA.out.set b1 b2 (sg0 f k)).congr (fun j _ => sgK_next f k j))
      have HA2' := Lib.hid (show Arr (wr.setCell ⟨w.heap.size + 1, (k : Int).toNat, none⟩ (.int .i64 (sg0 f k))) w.heap.size (fun _ => 0) by
        intro j hj
        refine ⟨?_, by simp [go_sem]; exact (hA2.out j hj).2⟩
        rw [World.cell?_setCell_other _ _ _ _ (by simp only [ne_eq, Addr.mk.injEq]; omega)]
        exact (hA2.out j hj).1)
      have ht : (k : Int).toNat = k := by omega
      rw [ht] at HA' HA2'
      go_wp2_with fail
      refine (kAlter_any f _ _ (HT.out.later gr)).mono ?_
      rintro e w2 ⟨rfl, rfl⟩
      try rw [q2]
      rw [← hm.out, HV.out.1, HV.out.2]
      go_wp2_with fail
      go_roundg (77 - (k + 1))
      case measure => have := HG.out; omega
      case rel => exact ⟨k + 1, by first | rfl | simp, rfl, by omega, HA', HA2', by (repeat' (first | (with_reducible exact G.refl _) | (with_reducible assumption) | (with_reducible refine G.drewN ?_ _) | (with_reducible refine G.drew ?_) | (with_reducible refine G.alloc ?_ _) | (with_reducible refine G.setCell ?_ (by first | (with_reducible exact Nat.le_refl _) | (simp; done) | (simp; omega) | omega) _) | (with_reducible refine G.trans ?_ (by assumption))))⟩
    · obtain rfl : k = 77 := by omega
      have HR := hA.out.range
      have e : arrL (sgK f 77) = arrL (sg0 f) := by
        unfold arrL
        refine List.map_congr_left fun j hj => ?_
        unfold sgK
        rw [if_pos (by have := List.mem_range.1 hj; omega)]
      rw [e] at HR
      have a9 := hA2.out
      have HT1 := Lib.hid a9.there
      have HS := Lib.hid (a9.stored (sg0 f))
      have gS := Lib.hid (G.setCells w.heap.size (Nat.le_refl _) (arrL (sg0 f)) 0 gr)
      clear e hA hA2 a9 hin hk
      have HL := Lib.hid (arrL_len (sg0 f))
      have HO := Lib.hid (arrL_one (sg0 f))
      generalize arrL (sg0 f) = L at *
      have hs : (Tryd.prog.info? 58).map (·.size) = some L.length := by rw [HL.out]; exact aInfo
      have HSZ := Lib.hid hs
      clear hs
      go_wp2_with (first
        | (refine wpList_load_mid rfl 58 _ rfl (w.heap.size + 1) 0 rfl L _ HR Tryd.underlying58 rfl HSZ.out ?_)
        | (refine wpList_store_mid rfl 58 _ _ rfl w.heap.size 0 L.toArray rfl rfl (by simp only [List.size_toArray]; rw [HL.out]; exact HT1.out) (by simpa using HSZ.out) HO.out ?_))
      have hl := run_loadVar_mid (P := Tryd.prog) _ w.heap.size 0 58 (arrL (sg0 f)) _ HS.out.range Tryd.underlying58 rfl (by rw [arrL_len]; exact aInfo)
      refine bodyPost_ret (v := .agg (arrL (sg0 f)).toArray) ?_ rfl ⟨rfl, gS.out⟩
      exact results_cell1 Tryd.results32 _ _ _ rfl hl
end Go.Proofs.YtghlecocnflbnaaDoor
