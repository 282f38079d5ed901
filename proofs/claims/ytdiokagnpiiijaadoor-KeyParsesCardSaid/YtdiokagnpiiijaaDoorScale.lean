import Derived.Test.YtdiokagnpiiijaaDoorRAlt
/-! Scales: of the program and of the reference. -/
namespace Go.Proofs.YtdiokagnpiiijaaDoor
open Go.RowKit
attribute [local go_sem] World.cell?_alloc_some

abbrev P3 := Int × Int × Int
def cells3 (p : P3) : List Value := [.int .i64 p.1, .int .i64 p.2.1, .int .i64 p.2.2]
def flat (l : List P3) : List Value := l.flatMap cells3
theorem flat_append (a b : List P3) : flat (a ++ b) = flat a ++ flat b := by simp [flat]
theorem flat_one (p : P3) : flat [p] = cells3 p := by simp [flat]
theorem cell_three_new (W : World) (B : Nat) (a b c : Value) (t : TypeId) (hs : W.heap.size = B) : ∀ (j : Nat) (u : Value), [a, b, c][j]? = some u → (W.alloc (.cells #[a, b, c] t)).cell? ((⟨B, 0, none⟩ : Addr).add j) = some u := by
  intro j u hj
  subst hs
  match j, hj with
  | 0, h => simp at h; subst h; simp [Addr.add]
  | 1, h => simp at h; subst h; simp [Addr.add]
  | 2, h => simp at h; subst h; simp [Addr.add]
  | j + 3, h => simp at h
theorem flat_get : ∀ (l : List P3) (i : Nat) (p : P3), l[i]? = some p → (flat l)[3 * i]? = some (.int .i64 p.1) ∧ (flat l)[3 * i + 1]? = some (.int .i64 p.2.1) ∧ (flat l)[3 * i + 2]? = some (.int .i64 p.2.2)
  | [], i, p, h => by simp at h
  | q :: l, 0, p, h => by
    simp at h; subst h
    simp [flat, cells3]
  | q :: l, i + 1, p, h => by
    have k := flat_get l i p (by simpa using h)
    have e : flat (q :: l) = cells3 q ++ flat l := by simp [flat]
    have l3 : (cells3 q).length = 3 := rfl
    rw [e]
    refine ⟨?_, ?_, ?_⟩
    · rw [List.getElem?_append_right (by omega), l3, show 3 * (i + 1) - 3 = 3 * i by omega]; exact k.1
    · rw [List.getElem?_append_right (by omega), l3, show 3 * (i + 1) + 1 - 3 = 3 * i + 1 by omega]; exact k.2.1
    · rw [List.getElem?_append_right (by omega), l3, show 3 * (i + 1) + 2 - 3 = 3 * i + 2 by omega]; exact k.2.2
/-- a slice of pitches: where it lies, and its cells -/
theorem own_cells {W : World} {base : Nat} {e : TypeId} {v : Value} {l : List P3} (h : W.ownsRow base e 3 v l.length (flat l)) :
    (v = .slice none 0 0 ∧ l = []) ∨ ∃ g cap, v = .slice (some ⟨g, 0, none⟩) l.length cap ∧ base ≤ g ∧ l.length ≤ cap ∧ cap ≤ maxLen ∧ ∀ (i : Nat) (p : P3), l[i]? = some p →
      W.cell? ⟨g, 3 * i, none⟩ = some (.int .i64 p.1) ∧ W.cell? ⟨g, 3 * i + 1, none⟩ = some (.int .i64 p.2.1) ∧ W.cell? ⟨g, 3 * i + 2, none⟩ = some (.int .i64 p.2.2) := by
  rcases h.2 with ⟨h1, h2⟩ | ⟨g, cap, cur, h1, h2, h3, h4, h5, h6, h7⟩
  · exact .inl ⟨h1, List.length_eq_zero_iff.1 h2⟩
  · refine .inr ⟨g, cap, h1, h2, h4, h5, fun i p hp => ?_⟩
    obtain ⟨x0, x1, x2⟩ := flat_get l i p hp
    have get : ∀ (j : Nat) (u : Value), (flat l)[j]? = some u → W.cell? ⟨g, j, none⟩ = some u := by
      intro j u hj
      rw [← h7] at hj
      have hj2 : cur.toList[j]? = some u := by
        rw [List.getElem?_take] at hj
        split at hj
        · exact hj
        · simp at hj
      simp only [World.cell?, h3]
      simpa using hj2
    exact ⟨get _ _ x0, get _ _ x1, get _ _ x2⟩
theorem pInfo : (Tryd.prog.info? 51).map (fun i => (i.zero, i.size, i.bytes)) = some (some (.agg #[.int .i64 0, .int .i64 0, .int .i64 0]), 3, 24) := by kernel_rfl
theorem rpInfo : (Tryd.prog.info? 50).map (fun i => (i.zero, i.size, i.bytes)) = some (some (.agg #[.int .i64 0, .int .i64 0, .int .i64 0]), 3, 24) := by kernel_rfl
/-- a list of pitches in the making -/
def AtP (t : TypeId) (w wr : World) (v : Value) (l : List P3) : Prop := wr.ownsRow w.heap.size t 3 v l.length (flat l) ∧ G w wr
theorem AtP.later {t : TypeId} {w a b : World} {v : Value} {l : List P3} (h : AtP t w a v l) (g : G a b) : AtP t w b v l := ⟨own_later h.1 g, h.2.trans g⟩
theorem AtP.nil (t : TypeId) {w wr : World} (g : G w wr) : AtP t w wr (.slice none 0 0) [] := ⟨World.ownsRow_nil _ _ _ _, g⟩
theorem AtP.more {t : TypeId} {w W3 w1 : World} {v v' : Value} {l : List P3} {p : P3} {tmp : Obj} (h : AtP t w W3 v l) (ho : w1.ownsRow w.heap.size t 3 v' (l.length + 1) (flat l ++ cells3 p)) (hg : (W3.alloc tmp).grownBy w1 v.ownBlock) : AtP t w w1 v' (l ++ [p]) := by
  refine ⟨by rw [flat_append, flat_one, List.length_append]; exact ho, ?_⟩
  refine Below.grown (h.2.alloc tmp) hg (by have := h.2.size; simp; omega) fun j ej => ?_
  rcases h.1.2 with ⟨rfl, _⟩ | ⟨g, cap, cur, rfl, hb, _, _⟩
  · simp [Value.ownBlock] at ej
  · obtain rfl : g = j := by simpa [Value.ownBlock] using ej
    exact hb

/-- the pitches of a scale from a step on -/
def scP (f t o : Int) (n : Nat) : P3 := ((t + n) % 7, al f ((t + n) % 7), o + (t + n) / 7)
def scL (f t o : Int) (k : Nat) : List P3 := (List.range k).map (scP f t o)
theorem scL_succ (f t o : Int) (k : Nat) : scL f t o (k + 1) = scL f t o k ++ [scP f t o k] := by simp [scL, List.range_succ]
theorem scL_len (f t o : Int) (k : Nat) : (scL f t o k).length = k := by simp [scL]
def okO (t o : Int) : Prop := -1 ≤ o ∧ o + (t + 6) / 7 ≤ 9
instance (t o : Int) : Decidable (okO t o) := by unfold okO; infer_instance
def scF (f : Int) (m : Bool) (o : Int) : List P3 := if Sg f ∧ okO (tS (f + mi m)) o then scL f (tS (f + mi m)) o 7 else []
def scE (f : Int) (m : Bool) (o : Int) : Int := if Sg f then (if okO (tS (f + mi m)) o then 0 else 18) else 2

theorem Scale_bad (f : Int) (m : Bool) (o : Int) (w : World) (hf : ¬ Sg f) :
    Calls Tryd.prog 25 #[.int .i64 f, .bool m, .int .i64 o] w fun e w' => e = .returned (.tuple #[.slice none 0 0, .int .i64 2]) ∧ w = w' := by
  have HS := Lib.hid hf
  clear hf
  go_enter Tryd.func25, Tryd.ntmps25
  go_wp2_with fail
  refine (Tonic_bad f m _ HS.out).mono ?_
  rintro e w1 ⟨rfl, rfl⟩
  go_wp2_with fail
  go_returns
  exact ⟨rfl, rfl⟩

set_option maxRecDepth 100000 in
set_option maxHeartbeats 4000000 in
theorem Scale_ok (f : Int) (m : Bool) (o : Int) (w : World) (hf : Sg f) (bl : -9223372036854775808 ≤ o) (bh : o ≤ 9223372036854775807) (hT : Tab w) :
    Calls Tryd.prog 25 #[.int .i64 f, .bool m, .int .i64 o] w fun e w' => ∃ v, e = .returned (.tuple #[v, .int .i64 (scE f m o)]) ∧ AtP 51 w w' v (scF f m o) := by
  obtain ⟨i0, hi, hz0, hz1, hz2⟩ := info_parts' pInfo
  have HS := Lib.hid hf
  have HT := Lib.hid hT
  have HB := Lib.hid (And.intro bl bh)
  obtain ⟨t, ht⟩ : ∃ z : Int, Hid (z = tS (f + mi m)) := ⟨_, rfl⟩
  obtain ⟨A2, hA2⟩ : ∃ z : Int, Hid (z = tA (f + mi m)) := ⟨_, rfl⟩
  have tb := tS_bd (f + mi m)
  rw [← ht.out] at tb
  obtain ⟨t0, t1⟩ := tb
  clear hT hf bl bh
  go_enter Tryd.func25, Tryd.ntmps25
  go_wp2_with fail
  refine (Tonic_ok f m _ HS.out HT.out).mono ?_
  rintro e w1 ⟨rfl, rfl⟩
  rw [← ht.out, ← hA2.out]
  go_wp2_with fail
  go_loopg [11, 25] 7 (fun g y x wr => ∃ (v : Value) (k : Nat), v = y ∧ x = .int .i64 k ∧ g = 7 - k ∧ k ≤ 7 ∧ Hid (k = 0 ∨ (-1 ≤ o ∧ o + (t + k - 1) / 7 ≤ 9)) ∧ AtP 51 w wr v (scL f t o k))
  case atStart => exact ⟨_, 0, rfl, rfl, rfl, by omega, Lib.hid (.inl rfl), AtP.nil _ (G.refl _)⟩
  case round =>
    obtain ⟨v, k, rfl, rfl, hg, hk, ho, hA⟩ := hrel
    have HG := Lib.hid hg
    clear hg
    by_cases hk7 : k = 7
    · subst hk7
      have HR := Lib.hid (show scE f m o = 0 ∧ scF f m o = scL f t o 7 by
        have c : okO t o := by rcases ho.out with h | ⟨h1, h2⟩
                               · omega
                               · exact ⟨h1, by omega⟩
        unfold scE scF; rw [← ht.out, if_pos HS.out, if_pos c, if_pos ⟨HS.out, c⟩]; exact ⟨rfl, rfl⟩)
      go_wp2_with fail
      go_returns
      exact ⟨v, by rw [HR.out.1]; rfl, by rw [HR.out.2]; exact hA⟩
    · have k6 : k < 7 := by omega
      obtain ⟨x, hx⟩ : ∃ z : Int, (t + (k : Int)) % 7 = z := ⟨_, rfl⟩
      obtain ⟨y, hy⟩ : ∃ z : Int, (t + (k : Int)) / 7 = z := ⟨_, rfl⟩
      have y0 : 0 ≤ y := by omega
      have y1 : y ≤ 1 := by omega
      have qy := IntWalk.i64_in (o + y) (by have := HB.out; rcases ho.out with h | ⟨h1, h2⟩ <;> omega)
      have q := IntWalk.i64_in ((k : Int) + 1) (by omega)
      have HX := Lib.hid hx
      have HY := Lib.hid hy
      obtain ⟨a, ha⟩ : ∃ z : Int, Hid (z = al f x) := ⟨_, rfl⟩
      have hTr := Lib.hid (HT.out.later hA.2)
      have hsz := hA.2.size
      have HA := Lib.hid hA
      have hl := scL_len f t o k
      clear hA
      by_cases c1 : o + y < -1
      · have HR := Lib.hid (show scE f m o = 18 ∧ scF f m o = [] by
          have c : ¬ okO t o := by unfold okO; omega
          unfold scE scF; rw [← ht.out, if_pos HS.out, if_neg c, if_neg (fun h => c h.2)]; exact ⟨rfl, rfl⟩)
        go_wp2_with (go_at_call 38; refine (alteration_any f x _ HS.out hTr.out).mono ?_; rintro e w1 ⟨rfl, rfl⟩; rw [← ha.out])
        go_returns
        exact ⟨_, by rw [HR.out.1]; rfl, by rw [HR.out.2]; exact AtP.nil _ (HA.out.2.trans (by (repeat' (first | (with_reducible exact G.refl _) | (with_reducible assumption) | (with_reducible refine G.drewN ?_ _) | (with_reducible refine G.drew ?_) | (with_reducible refine G.alloc ?_ _) | (with_reducible refine G.setCell ?_ (by first | (with_reducible exact Nat.le_refl _) | (simp; done) | (simp; omega) | omega) _) | (with_reducible refine G.trans ?_ (by assumption))))))⟩
      by_cases c2 : 9 < o + y
      · have HR := Lib.hid (show scE f m o = 18 ∧ scF f m o = [] by
          have c : ¬ okO t o := by unfold okO; omega
          unfold scE scF; rw [← ht.out, if_pos HS.out, if_neg c, if_neg (fun h => c h.2)]; exact ⟨rfl, rfl⟩)
        go_wp2_with (go_at_call 38; refine (alteration_any f x _ HS.out hTr.out).mono ?_; rintro e w1 ⟨rfl, rfl⟩; rw [← ha.out])
        go_returns
        exact ⟨_, by rw [HR.out.1]; rfl, by rw [HR.out.2]; exact AtP.nil _ (HA.out.2.trans (by (repeat' (first | (with_reducible exact G.refl _) | (with_reducible assumption) | (with_reducible refine G.drewN ?_ _) | (with_reducible refine G.drew ?_) | (with_reducible refine G.alloc ?_ _) | (with_reducible refine G.setCell ?_ (by first | (with_reducible exact Nat.le_refl _) | (simp; done) | (simp; omega) | omega) _) | (with_reducible refine G.trans ?_ (by assumption))))))⟩
      · have HN := Lib.hid (show k + 1 = 0 ∨ (-1 ≤ o ∧ o + (t + ((k + 1 : Nat) : Int) - 1) / 7 ≤ 9) by
          refine .inr ?_
          rcases ho.out with h | ⟨h1, h2⟩
          · subst h; constructor <;> omega
          · constructor <;> omega)
        have HU := Lib.hid (show scL f t o (k + 1) = scL f t o k ++ [(x, a, o + y)] by rw [scL_succ]; unfold scP; rw [HX.out, HY.out, ha.out])
        clear ho
        go_wp2_with (first
          | (go_at_call 38; refine (alteration_any f x _ HS.out hTr.out).mono ?_; rintro e w1 ⟨rfl, rfl⟩; rw [← ha.out])
          | (at_builtin; refine wpList_append_own _ rfl _ _ 43 rfl w.heap.size 51 i0 (.agg #[.int .i64 0, .int .i64 0, .int .i64 0]) 3 24 Tryd.underlying43 hi hz0 hz1 hz2 rfl (by decide) v (scL f t o k).length (flat (scL f t o k)) rfl (own_later HA.out.1 (by (repeat' (first | (with_reducible exact G.refl _) | (with_reducible assumption) | (with_reducible refine G.drewN ?_ _) | (with_reducible refine G.drew ?_) | (with_reducible refine G.alloc ?_ _) | (with_reducible refine G.setCell ?_ (by first | (with_reducible exact Nat.le_refl _) | (simp; done) | (simp; omega) | omega) _) | (with_reducible refine G.trans ?_ (by assumption)))))) ⟨wr.heap.size + 1, 0, none⟩ 1 1 (cells3 (x, a, o + y)) rfl rfl (cell_three_new _ _ _ _ _ _ (by simp)) (by simp [cells3, Value.oneCell']) (by unfold maxLen; omega) (by omega) (by simp; omega) ?_; intro v' w1 hown' hgrow _))
        have hA5 := AtP.more (HA.out.later (G.alloc (G.refl _) _)) hown' hgrow
        go_roundg (7 - (k + 1))
        case measure => have := HG.out; omega
        case rel => exact ⟨v', k + 1, rfl, by go_num, rfl, by omega, HN, by rw [HU.out]; exact hA5⟩

theorem Scale_any (f : Int) (m : Bool) (o : Int) (w : World) (bl : -9223372036854775808 ≤ o) (bh : o ≤ 9223372036854775807) (hT : Tab w) :
    Calls Tryd.prog 25 #[.int .i64 f, .bool m, .int .i64 o] w fun e w' => ∃ v, e = .returned (.tuple #[v, .int .i64 (scE f m o)]) ∧ AtP 51 w w' v (scF f m o) := by
  by_cases h : Sg f
  · exact Scale_ok f m o w h bl bh hT
  · refine (Scale_bad f m o w h).mono ?_
    rintro e w' ⟨rfl, rfl⟩
    unfold scE scF
    rw [if_neg h, if_neg (fun k => h k.1)]
    exact ⟨_, rfl, AtP.nil _ (G.refl _)⟩

set_option maxRecDepth 100000 in
set_option maxHeartbeats 4000000 in
theorem rScale_any (f : Int) (m : Bool) (o : Int) (w : World) (hf : Sg f) (bl : -9223372036854775808 ≤ o) (bh : o ≤ 9223372036854775807) :
    Calls Tryd.prog 26 #[.int .i64 f, .bool m, .int .i64 o] w fun e w' => ∃ v, e = .returned (.tuple #[v, .int .i64 (scE f m o)]) ∧ AtP 50 w w' v (scF f m o) := by
  obtain ⟨i0, hi, hz0, hz1, hz2⟩ := info_parts' rpInfo
  have HS := Lib.hid hf
  have HB := Lib.hid (And.intro bl bh)
  obtain ⟨t, ht⟩ : ∃ z : Int, Hid (z = tS (f + mi m)) := ⟨_, rfl⟩
  obtain ⟨A2, hA2⟩ : ∃ z : Int, Hid (z = tA (f + mi m)) := ⟨_, rfl⟩
  have tb := tS_bd (f + mi m)
  rw [← ht.out] at tb
  obtain ⟨t0, t1⟩ := tb
  clear hf bl bh
  go_enter Tryd.func26, Tryd.ntmps26
  go_wp2_with fail
  refine (rTonic_any f m _ HS.out).mono ?_
  rintro e w1 ⟨rfl, hG1⟩
  rw [← ht.out, ← hA2.out]
  go_wp2_with fail
  go_loopg [2, 8, 10, 11] 7 (fun g oc st y x wr => ∃ (v : Value) (k : Nat), oc = .int .i64 (o + (t + k) / 7) ∧ st = .int .i64 ((t + k) % 7) ∧ v = y ∧ x = .int .i64 k ∧ g = 7 - k ∧ k ≤ 7 ∧ Hid (k = 0 ∨ (-1 ≤ o ∧ o + (t + k - 1) / 7 ≤ 9)) ∧ AtP 50 w wr v (scL f t o k))
  case atStart => exact ⟨_, 0, by go_num, by go_num, rfl, rfl, rfl, by omega, Lib.hid (.inl rfl), AtP.nil _ hG1⟩
  case round =>
    obtain ⟨v, k, rfl, rfl, rfl, rfl, hg, hk, ho, hA⟩ := hrel
    have HG := Lib.hid hg
    clear hg
    obtain ⟨x, hx⟩ : ∃ z : Int, (t + (k : Int)) % 7 = z := ⟨_, rfl⟩
    obtain ⟨y, hy⟩ : ∃ z : Int, (t + (k : Int)) / 7 = z := ⟨_, rfl⟩
    rw [hx, hy]
    by_cases hk7 : k = 7
    · subst hk7
      have HR := Lib.hid (show scE f m o = 0 ∧ scF f m o = scL f t o 7 by
        have c : okO t o := by rcases ho.out with h | ⟨h1, h2⟩
                               · omega
                               · exact ⟨h1, by omega⟩
        unfold scE scF; rw [← ht.out, if_pos HS.out, if_pos c, if_pos ⟨HS.out, c⟩]; exact ⟨rfl, rfl⟩)
      go_wp2_with fail
      go_returns
      exact ⟨v, by rw [HR.out.1]; rfl, by rw [HR.out.2]; exact hA⟩
    · have k6 : k < 7 := by omega
      have y0 : 0 ≤ y := by omega
      have y1 : y ≤ 1 := by omega
      have x0 : 0 ≤ x := by omega
      have x1 : x ≤ 6 := by omega
      have q := IntWalk.i64_in ((k : Int) + 1) (by omega)
      have HX := Lib.hid hx
      have HY := Lib.hid hy
      clear hx hy
      obtain ⟨a, ha⟩ : ∃ z : Int, Hid (z = al f x) := ⟨_, rfl⟩
      have hsz := hA.2.size
      have HA := Lib.hid hA
      have hl := scL_len f t o k
      clear hA
      by_cases c1 : o + y < -1
      · have HR := Lib.hid (show scE f m o = 18 ∧ scF f m o = [] by
          have c : ¬ okO t o := by unfold okO; omega
          unfold scE scF; rw [← ht.out, if_pos HS.out, if_neg c, if_neg (fun h => c h.2)]; exact ⟨rfl, rfl⟩)
        go_wp2_with fail
        go_returns
        exact ⟨_, by rw [HR.out.1]; rfl, by rw [HR.out.2]; exact AtP.nil _ HA.out.2⟩
      by_cases c2 : 9 < o + y
      · have HR := Lib.hid (show scE f m o = 18 ∧ scF f m o = [] by
          have c : ¬ okO t o := by have := HY.out; unfold okO; omega
          unfold scE scF; rw [← ht.out, if_pos HS.out, if_neg c, if_neg (fun h => c h.2)]; exact ⟨rfl, rfl⟩)
        go_wp2_with fail
        go_returns
        exact ⟨_, by rw [HR.out.1]; rfl, by rw [HR.out.2]; exact AtP.nil _ HA.out.2⟩
      · have HN := Lib.hid (show k + 1 = 0 ∨ (-1 ≤ o ∧ o + (t + ((k + 1 : Nat) : Int) - 1) / 7 ≤ 9) by
          have hy := HY.out
          refine .inr ?_
          rcases ho.out with h | ⟨h1, h2⟩
          · subst h; constructor <;> omega
          · constructor <;> omega)
        have HU := Lib.hid (show scL f t o (k + 1) = scL f t o k ++ [(x, a, o + y)] by rw [scL_succ]; unfold scP; rw [HX.out, HY.out, ha.out])
        have qo := IntWalk.i64_in (o + y + 1) (by omega)
        have qx := IntWalk.i64_in (x + 1) (by omega)
        clear ho
        by_cases c6 : x = 6
        · have HE := Lib.hid (show o + (t + ((k + 1 : Nat) : Int)) / 7 = o + y + 1 ∧ (t + ((k + 1 : Nat) : Int)) % 7 = 0 by
            have hx := HX.out
            have hy := HY.out
            omega)
          have hb : (x + 1 == 7) = true := by rw [c6]; rfl
          clear c6
          go_wp2_with (first
            | (go_at_call 20; refine (rAlter_any f x _ HS.out x0 x1).mono ?_; rintro e w2 ⟨rfl, hG2⟩; rw [← ha.out]; have hA4 := HA.out.later hG2; have hs2 := hG2.size)
            | (at_builtin; refine wpList_append_own _ rfl _ _ 46 rfl w.heap.size 50 i0 (.agg #[.int .i64 0, .int .i64 0, .int .i64 0]) 3 24 Tryd.underlying46 hi hz0 hz1 hz2 rfl (by decide) v (scL f t o k).length (flat (scL f t o k)) rfl (own_later hA4.1 (by (repeat' (first | (with_reducible exact G.refl _) | (with_reducible assumption) | (with_reducible refine G.drewN ?_ _) | (with_reducible refine G.drew ?_) | (with_reducible refine G.alloc ?_ _) | (with_reducible refine G.setCell ?_ (by first | (with_reducible exact Nat.le_refl _) | (simp; done) | (simp; omega) | omega) _) | (with_reducible refine G.trans ?_ (by assumption)))))) ⟨w2.heap.size, 0, none⟩ 1 1 (cells3 (x, a, o + y)) rfl rfl (cell_three_new _ _ _ _ _ _ (by simp)) (by simp [cells3, Value.oneCell']) (by unfold maxLen; omega) (by omega) (by simp; omega) ?_; intro v' w1 hown' hgrow _))
          have hA5 := AtP.more hA4 hown' hgrow
          go_roundg (7 - (k + 1))
          case measure => have := HG.out; omega
          case rel => exact ⟨v', k + 1, by rw [HE.out.1], by rw [HE.out.2], rfl, by go_num, rfl, by omega, HN, by rw [HU.out]; exact hA5⟩
        · have HE := Lib.hid (show o + (t + ((k + 1 : Nat) : Int)) / 7 = o + y ∧ (t + ((k + 1 : Nat) : Int)) % 7 = x + 1 by
            have hx := HX.out
            have hy := HY.out
            omega)
          have hb : (x + 1 == 7) = false := beq_false_of_ne (by omega)
          clear c6
          go_wp2_with (first
            | (go_at_call 20; refine (rAlter_any f x _ HS.out x0 x1).mono ?_; rintro e w2 ⟨rfl, hG2⟩; rw [← ha.out]; have hA4 := HA.out.later hG2; have hs2 := hG2.size)
            | (at_builtin; refine wpList_append_own _ rfl _ _ 46 rfl w.heap.size 50 i0 (.agg #[.int .i64 0, .int .i64 0, .int .i64 0]) 3 24 Tryd.underlying46 hi hz0 hz1 hz2 rfl (by decide) v (scL f t o k).length (flat (scL f t o k)) rfl (own_later hA4.1 (by (repeat' (first | (with_reducible exact G.refl _) | (with_reducible assumption) | (with_reducible refine G.drewN ?_ _) | (with_reducible refine G.drew ?_) | (with_reducible refine G.alloc ?_ _) | (with_reducible refine G.setCell ?_ (by first | (with_reducible exact Nat.le_refl _) | (simp; done) | (simp; omega) | omega) _) | (with_reducible refine G.trans ?_ (by assumption)))))) ⟨w2.heap.size, 0, none⟩ 1 1 (cells3 (x, a, o + y)) rfl rfl (cell_three_new _ _ _ _ _ _ (by simp)) (by simp [cells3, Value.oneCell']) (by unfold maxLen; omega) (by omega) (by simp; omega) ?_; intro v' w1 hown' hgrow _))
          have hA5 := AtP.more hA4 hown' hgrow
          go_roundg (7 - (k + 1))
          case measure => have := HG.out; omega
          case rel => exact ⟨v', k + 1, by rw [HE.out.1], by rw [HE.out.2], rfl, by go_num, rfl, by omega, HN, by rw [HU.out]; exact hA5⟩
end Go.Proofs.YtdiokagnpiiijaaDoor
