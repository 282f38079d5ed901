import Derived.Test.YtdiokagnpiiijaaDoorRAlt
import Derived.Test.YtdiokagnpiiijaaDoorShDel
import Derived.Lib.OwnBridge
/-! The steps whose accidentals are cancelled: of the program and of the reference. -/
namespace Go.Proofs.YtdiokagnpiiijaaDoor
open Go.RowKit Go.Shelf Go.Lib Go.Sort
attribute [local go_sem] World.cell?_alloc_some

/-- what is left of a list: the steps that the second signature doesn't alter -/
def ks (g : Int) (l : List Int) : List Int := l.filter (fun x => !(al g x != 0))
theorem ks_hit {g x : Int} (h : al g x = 0) (l : List Int) : ks g (l ++ [x]) = ks g l ++ [x] := by simp [ks, h]
theorem ks_miss {g x : Int} (h : al g x ≠ 0) (l : List Int) : ks g (l ++ [x]) = ks g l := by simp [ks, h]
theorem ks_len (g : Int) (l : List Int) : (ks g l).length ≤ l.length := List.length_filter_le _ _

set_option maxHeartbeats 800000 in
theorem stays_any (g x : Int) (B : Nat) (W : World) (hg : Sg g) (hc : W.cell? ⟨B, 0, none⟩ = some (.int .i64 g)) (hT : Tab W) :
    Calls Tryd.prog 45 #[.int .i64 x, .pointer (some ⟨B, 0, none⟩)] W fun e w' => e = .returned (.bool (al g x != 0)) ∧ ∃ q, w' = W.drewN q := by
  obtain ⟨A, hA⟩ : ∃ z : Int, Hid (z = al g x) := ⟨_, rfl⟩
  rw [← hA.out]
  have HG := Lib.hid hg
  have HT := Lib.hid hT
  clear hg hT
  go_enter Tryd.func45, Tryd.ntmps45
  go_wp2_with fail
  refine (alteration_any g x _ HG.out HT.out).mono ?_
  rintro e w1 ⟨rfl, rfl⟩
  rw [← hA.out]
  go_wp2_with fail
  go_ret
  exact ⟨rfl, 0, rfl⟩

theorem index_nil (fv : Value) (w : World) : Calls Tryd.prog 49 #[.slice none 0 0, fv] w fun e w' => e = .returned (.int .i64 (-1)) ∧ G w w' := by
  go_enter Tryd.func49, Tryd.ntmps49
  go_wp2_with fail
  go_loopw [8] (fun x wr => x = .int .i64 0 ∧ wr = w) (fun _ _ => 0)
  case atStart => exact ⟨rfl, rfl⟩
  case round =>
    obtain ⟨rfl, rfl⟩ := hrel
    go_wp2_with fail
    go_ret
    exact ⟨rfl, by (repeat' (first | (with_reducible exact G.refl _) | (with_reducible assumption) | (with_reducible refine G.drewN ?_ _) | (with_reducible refine G.drew ?_) | (with_reducible refine G.alloc ?_ _) | (with_reducible refine G.setCell ?_ (by first | (with_reducible exact Nat.le_refl _) | (simp; done) | (simp; omega) | omega) _) | (with_reducible refine G.trans ?_ (by assumption))))⟩

theorem over_cell {enc : Int → Value} {w : World} {blk n : Nat} {dk : Array Int} {os : Array Obj} {a : Addr} {v : Value} (h : w.cell? a = some v) (hne : a.block ≠ blk) : (sortWorld enc w blk 0 n dk os).cell? a = some v := by
  unfold sortWorld
  rw [cell?_grow _ _ _ (by rw [size_putRow]; exact cell_lt h), cell?_putRow_other _ _ blk 0 _ _ (Or.inl hne)]
  exact h

theorem eg (args : Array Value) (w : World) : (callFunc 45 args).run Tryd.prog w = .ok (.enter 45 args) w := enters_of Tryd.func45 (by kernel_rfl) rfl args w

set_option maxHeartbeats 1600000 in
theorem Delete_any (w0 w1 : World) (v : Value) (l : List Int) (g : Int) (B : Nat) (hA : At w0 w1 v l) (hB : B < w0.heap.size) (hc : w1.cell? ⟨B, 0, none⟩ = some (.int .i64 g)) (hT0 : Tab w0) (hg : Sg g) (hl : l.length ≤ 100) :
    Calls Tryd.prog 46 #[v, .func (.func 45) #[] #[.pointer (some ⟨B, 0, none⟩)]] w1 fun e w' => ∃ v', e = .returned v' ∧ At w0 w' v' (ks g l) := by
  have hT := hT0.later hA.2
  rcases hA.1.2 with ⟨hv, h0⟩ | ⟨gb, cap, cur, hv, _⟩
  · subst hv
    obtain rfl := List.length_eq_zero_iff.1 h0
    go_enter Tryd.func46, Tryd.ntmps46
    go_wp2_with fail
    refine (index_nil _ _).mono ?_
    rintro e w2 ⟨rfl, hG⟩
    go_wp2_with fail
    go_ret
    exact ⟨_, rfl, World.ownsRow_nil _ _ _ _, hA.2.trans hG⟩
  · have hne : v ≠ .slice none 0 0 := by rw [hv]; intro e; cases e
    obtain ⟨gb, cap, rfl, hgb, hlt, hcap, hcap2, hlen, hH⟩ := holds_of_ownsRow (enc := Value.int .i64) (zs := l) hA.1 hne
    clear hv hne
    have b0 := cell_lt hT0.s0
    have b1 := cell_lt hT0.g0
    dsimp only at b0 b1
    have hcon := AnyE.slices_DeleteFunc Tryd.l46 (Value.int .i64) (fun _ => rfl) (fun x => al g x != 0) 45 #[.pointer (some ⟨B, 0, none⟩)] eg 0 Tryd.zeroValue3 gb 0 cap l.toArray w1
      (fun W x hb => stays_any g x B W hg ((hb.cell (p := ⟨B, 0, none⟩) (cell_lt hc)).trans hc) (hT.later hb))
      (fun n os dk x _ => stays_any g x B _ hg (over_cell hc (by dsimp only; omega)) ⟨over_cell hT.s0 (by dsimp only; omega), over_cell hT.s1 (by dsimp only; omega), over_cell hT.s2 (by dsimp only; omega), over_cell hT.s3 (by dsimp only; omega), over_cell hT.s4 (by dsimp only; omega), over_cell hT.s5 (by dsimp only; omega), over_cell hT.s6 (by dsimp only; omega), over_cell hT.g0 (by dsimp only; omega), over_cell hT.g1 (by dsimp only; omega), over_cell hT.g2 (by dsimp only; omega)⟩)
      hH (by simp; omega) (by simpa using hcap)
    change Calls Tryd.prog 46 _ _ _ at hcon
    refine hcon.mono ?_
    rintro e w2 ⟨rfl, q, rfl⟩
    have hk := ks_len g l
    refine ⟨_, rfl, ?_, below_putRow hA.2 hgb⟩
    have h := ownsRow_putRow (q := q) (k := (ks g l).length) (ys := ks g l ++ List.replicate (l.length - (ks g l).length) 0) (enc := Value.int .i64) (zs := l) hA.1 (by simp; omega) hk
    rw [List.take_left] at h
    exact h

set_option maxRecDepth 20000 in
set_option maxHeartbeats 1600000 in
theorem Naturals_ok (f g : Int) (w : World) (hf : Sg f) (hg : Sg g) (hT : Tab w) :
    Calls Tryd.prog 35 #[.int .i64 f, .int .i64 g] w fun e w' => ∃ v, e = .returned (.tuple #[v, .int .i64 0]) ∧ At w w' v (ks g (sgL f)) := by
  have HF := Lib.hid hf
  have HG := Lib.hid hg
  have HT := Lib.hid hT
  have HL := Lib.hid (show (sgL f).length ≤ 100 by rw [sgL_len hf]; obtain ⟨f0, f1⟩ := hf; omega)
  clear hf hg hT
  go_enter Tryd.func35, Tryd.ntmps35
  go_wp2_with fail
  refine (Signature_ok f _ HF.out (HT.out.later (by (repeat' (first | (with_reducible exact G.refl _) | (with_reducible assumption) | (with_reducible refine G.drewN ?_ _) | (with_reducible refine G.drew ?_) | (with_reducible refine G.alloc ?_ _) | (with_reducible refine G.setCell ?_ (by first | (with_reducible exact Nat.le_refl _) | (simp; done) | (simp; omega) | omega) _) | (with_reducible refine G.trans ?_ (by assumption))))))).mono ?_
  rintro e w1 ⟨v, rfl, hA⟩
  have hc : w1.cell? ⟨w.heap.size, 0, none⟩ = some (.int .i64 g) := by rw [hA.2.cell (by simp)]; go_cell
  go_wp2_with fail
  refine (Check_any g _).mono ?_
  rintro e w2 ⟨rfl, rfl⟩
  rw [ck_ok HG.out]
  go_wp2_with fail
  refine (Delete_any _ _ v (sgL f) g w.heap.size hA (by simp) hc (HT.out.later (by (repeat' (first | (with_reducible exact G.refl _) | (with_reducible assumption) | (with_reducible refine G.drewN ?_ _) | (with_reducible refine G.drew ?_) | (with_reducible refine G.alloc ?_ _) | (with_reducible refine G.setCell ?_ (by first | (with_reducible exact Nat.le_refl _) | (simp; done) | (simp; omega) | omega) _) | (with_reducible refine G.trans ?_ (by assumption)))))) HG.out HL.out).mono ?_
  rintro e w2 ⟨v', rfl, hA2⟩
  go_wp2_with fail
  go_returns
  exact ⟨v', rfl, hA2.base (by (repeat' (first | (with_reducible exact G.refl _) | (with_reducible assumption) | (with_reducible refine G.drewN ?_ _) | (with_reducible refine G.drew ?_) | (with_reducible refine G.alloc ?_ _) | (with_reducible refine G.setCell ?_ (by first | (with_reducible exact Nat.le_refl _) | (simp; done) | (simp; omega) | omega) _) | (with_reducible refine G.trans ?_ (by assumption)))))⟩

theorem Naturals_bad (f g : Int) (w : World) (h : ¬ (Sg f ∧ Sg g)) (hT : Tab w) :
    Calls Tryd.prog 35 #[.int .i64 f, .int .i64 g] w fun e w' => e = .returned (.tuple #[.slice none 0 0, .int .i64 2]) ∧ G w w' := by
  have HT := Lib.hid hT
  clear hT
  by_cases hf : Sg f
  · have HF := Lib.hid hf
    have HG := Lib.hid (show ¬ Sg g from fun k => h ⟨hf, k⟩)
    clear hf h
    go_enter Tryd.func35, Tryd.ntmps35
    go_wp2_with fail
    refine (Signature_ok f _ HF.out (HT.out.later (by (repeat' (first | (with_reducible exact G.refl _) | (with_reducible assumption) | (with_reducible refine G.drewN ?_ _) | (with_reducible refine G.drew ?_) | (with_reducible refine G.alloc ?_ _) | (with_reducible refine G.setCell ?_ (by first | (with_reducible exact Nat.le_refl _) | (simp; done) | (simp; omega) | omega) _) | (with_reducible refine G.trans ?_ (by assumption))))))).mono ?_
    rintro e w1 ⟨v, rfl, hA⟩
    have hG := hA.2
    have hc : w1.cell? ⟨w.heap.size, 0, none⟩ = some (.int .i64 g) := by rw [hA.2.cell (by simp)]; go_cell
    go_wp2_with fail
    refine (Check_any g _).mono ?_
    rintro e w2 ⟨rfl, rfl⟩
    rw [ck_bad HG.out]
    go_wp2_with fail
    go_returns
    exact ⟨rfl, by (repeat' (first | (with_reducible exact G.refl _) | (with_reducible assumption) | (with_reducible refine G.drewN ?_ _) | (with_reducible refine G.drew ?_) | (with_reducible refine G.alloc ?_ _) | (with_reducible refine G.setCell ?_ (by first | (with_reducible exact Nat.le_refl _) | (simp; done) | (simp; omega) | omega) _) | (with_reducible refine G.trans ?_ (by assumption))))⟩
  · have HF := Lib.hid hf
    clear hf h
    go_enter Tryd.func35, Tryd.ntmps35
    go_wp2_with fail
    refine (Signature_bad f _ HF.out).mono ?_
    rintro e w1 ⟨rfl, rfl⟩
    go_wp2_with fail
    go_returns
    exact ⟨rfl, by (repeat' (first | (with_reducible exact G.refl _) | (with_reducible assumption) | (with_reducible refine G.drewN ?_ _) | (with_reducible refine G.drew ?_) | (with_reducible refine G.alloc ?_ _) | (with_reducible refine G.setCell ?_ (by first | (with_reducible exact Nat.le_refl _) | (simp; done) | (simp; omega) | omega) _) | (with_reducible refine G.trans ?_ (by assumption))))⟩

theorem take_next {l : List Int} {i : Nat} {p : Int} (h : l[i]? = some p) : l.take (i + 1) = l.take i ++ [p] := by
  rw [List.take_add_one, h]; rfl

set_option maxRecDepth 100000 in
set_option maxHeartbeats 4000000 in
theorem rNaturals_any (f g : Int) (w : World) (hf : Sg f) (hg : Sg g) : Calls Tryd.prog 36 #[.int .i64 f, .int .i64 g] w fun e w' => ∃ v, e = .returned v ∧ At w w' v (ks g (sgL f)) := by
  obtain ⟨i0, hi, hz0, hz1, hz2⟩ := info_parts' iInfo
  have HG := Lib.hid hg
  go_enter Tryd.func36, Tryd.ntmps36
  go_wp2_with fail
  refine (rSignature_any f _ hf).mono ?_
  rintro e w1 ⟨v1, rfl, hA⟩
  have hlen := sgL_len hf
  have HR := Lib.hid (show ∀ (i : Nat) (x : Int), (sgL f)[i]? = some x → 0 ≤ x ∧ x ≤ 6 from fun i x hx => by
    obtain ⟨y, hy, y0, y1, _⟩ := sgL_get hf (List.getElem?_eq_some_iff.1 hx).1
    rw [hy] at hx
    obtain rfl := Option.some.inj hx
    exact ⟨y0, y1⟩)
  obtain ⟨f0, f1⟩ := hf
  obtain ⟨l, hl⟩ : ∃ z : List Int, Hid (z = sgL f) := ⟨_, rfl⟩
  rw [← hl.out] at hA hlen HR
  have gw1 := hA.2
  rcases hA.cells with ⟨rfl, e0⟩ | ⟨gb, cap, rfl, hgb, hcap, hcap2, hcells⟩
  · clear hA
    go_wp2_with fail
    go_loopw [5, 7] (fun y x wr => y = .slice none 0 0 ∧ x = .int .i64 0 ∧ wr = w1) (fun _ _ _ => 0)
    case atStart => exact ⟨rfl, rfl, rfl⟩
    case round =>
      obtain ⟨rfl, rfl, rfl⟩ := hrel
      go_wp2_with fail
      go_ret
      exact ⟨_, rfl, by rw [← hl.out, e0]; exact ⟨World.ownsRow_nil _ _ _ _, gw1⟩⟩
  · have HC := Lib.hid hcells
    clear hA hcells
    go_wp2_with fail
    go_loopg [5, 7] l.length (fun k y x wr => ∃ (v : Value) (i : Nat), v = y ∧ x = .int .i64 i ∧ k = l.length - i ∧ i ≤ l.length ∧ At w1 wr v (ks g (l.take i)))
    case atStart => exact ⟨_, 0, rfl, rfl, by simp, by omega, At.nil w1⟩
    case round =>
      obtain ⟨v, i, rfl, rfl, hgk, i1, hAt⟩ := hrel
      have HGK := Lib.hid hgk
      clear hgk
      by_cases hin : i < l.length
      · obtain ⟨p, hp⟩ : ∃ p, l[i]? = some p := ⟨l[i], List.getElem?_eq_getElem hin⟩
        have c0 := hAt.2.at (HC.out i p hp)
        have pb := Lib.hid (HR.out i p hp)
        have HP := Lib.hid (take_next hp)
        have q := IntWalk.i64_in ((i : Int) + 1) (by omega)
        have hkl := ks_len g (l.take i)
        rw [List.length_take] at hkl
        clear hp
        obtain ⟨A, hAA⟩ : ∃ z : Int, Hid (z = al g p) := ⟨_, rfl⟩
        have hsz := hAt.2.size
        have HAt := Lib.hid hAt
        clear hAt
        by_cases hm : A = 0
        · have hb : (A == 0) = true := by rw [hm]; rfl
          have HT2 := Lib.hid (show ks g (l.take (i + 1)) = ks g (l.take i) ++ [p] by rw [HP.out]; exact ks_hit (by rw [← hAA.out]; exact hm) _)
          clear hm
          go_wp2_with (first
            | (go_at_call 20; refine (rAlter_any g p _ HG.out pb.out.1 pb.out.2).mono ?_; rintro e w2 ⟨rfl, hG2⟩; rw [← hAA.out]; have hA4 := HAt.out.later hG2; have d0 := hG2.at c0; have hs2 := hG2.size)
            | (at_builtin; refine wpList_append_own _ rfl _ _ 25 rfl w1.heap.size 3 i0 (.int .i64 0) 1 8 Tryd.underlying25 hi hz0 hz1 hz2 rfl (by decide) v (ks g (l.take i)).length (ints (ks g (l.take i))) rfl (own_later hA4.1 (by (repeat' (first | (with_reducible exact G.refl _) | (with_reducible assumption) | (with_reducible refine G.drewN ?_ _) | (with_reducible refine G.drew ?_) | (with_reducible refine G.alloc ?_ _) | (with_reducible refine G.setCell ?_ (by first | (with_reducible exact Nat.le_refl _) | (simp; done) | (simp; omega) | omega) _) | (with_reducible refine G.trans ?_ (by assumption)))))) ⟨w2.heap.size, 0, none⟩ 1 1 [.int .i64 p] rfl rfl (cell_one_new _ _ _ _ (by simp)) (by simp [Value.oneCell']) (by unfold maxLen; omega) (by omega) (by simp; omega) ?_; intro v' w3 hown' hgrow _))
          have hA5 := At.more hA4 hown' hgrow
          go_roundg (l.length - (i + 1))
          case measure => have := HGK.out; omega
          case rel => exact ⟨v', i + 1, rfl, by go_num, rfl, by omega, by rw [HT2.out]; exact hA5⟩
        · have hb : (A == 0) = false := beq_false_of_ne hm
          have HT2 := Lib.hid (show ks g (l.take (i + 1)) = ks g (l.take i) by rw [HP.out]; exact ks_miss (by rw [← hAA.out]; exact hm) _)
          clear hm
          go_wp2_with (go_at_call 20; refine (rAlter_any g p _ HG.out pb.out.1 pb.out.2).mono ?_; rintro e w2 ⟨rfl, hG2⟩; rw [← hAA.out]; have hA4 := HAt.out.later hG2)
          go_roundg (l.length - (i + 1))
          case measure => have := HGK.out; omega
          case rel => exact ⟨v, i + 1, rfl, by go_num, rfl, by omega, by rw [HT2.out]; exact hA4⟩
      · obtain rfl : i = l.length := by omega
        rw [List.take_length] at hAt
        go_wp2_with fail
        go_ret
        exact ⟨v, rfl, by rw [← hl.out]; exact hAt.base gw1⟩
end Go.Proofs.YtdiokagnpiiijaaDoor
