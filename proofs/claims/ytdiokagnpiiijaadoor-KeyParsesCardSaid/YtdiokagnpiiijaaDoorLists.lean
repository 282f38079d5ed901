import Derived.Test.YtdiokagnpiiijaaDoorTonic
import Derived.Lib.AppendIntMem
import Derived.Maps.AppendAt
/-! Lists of steps: of the program and of the reference. -/
namespace Go.Proofs.YtdiokagnpiiijaaDoor
open Go.RowKit
attribute [local go_sem] World.cell?_alloc_some

theorem iInfo : (Tryd.prog.info? 3).map (fun i => (i.zero, i.size, i.bytes)) = some (some (.int .i64 0), 1, 8) := by kernel_rfl
theorem info_parts' {P : Program} {t : TypeId} {z : Value} {s b : Nat} (h : (P.info? t).map (fun i => (i.zero, i.size, i.bytes)) = some (some z, s, b)) : ∃ i, P.info? t = some i ∧ i.zero = some z ∧ i.size = s ∧ i.bytes = b := by
  cases hi : P.info? t with
  | none => rw [hi] at h; cases h
  | some i =>
    rw [hi] at h
    simp only [Option.map_some, Option.some.injEq, Prod.mk.injEq] at h
    exact ⟨i, rfl, h.1, h.2.1, h.2.2⟩

def ints (l : List Int) : List Value := l.map (fun x => .int .i64 x)
theorem ints_append (l : List Int) (x : Int) : ints (l ++ [x]) = ints l ++ [.int .i64 x] := by simp [ints]
theorem ints_length (l : List Int) : (ints l).length = l.length := by simp [ints]
/-- a list in the making -/
def At (w wr : World) (v : Value) (l : List Int) : Prop := wr.ownsRow w.heap.size 3 1 v l.length (ints l) ∧ G w wr
theorem At.later {w a b : World} {v : Value} {l : List Int} (h : At w a v l) (g : G a b) : At w b v l := ⟨own_later h.1 g, h.2.trans g⟩
theorem At.base {w w1 wr : World} {v : Value} {l : List Int} (h : At w1 wr v l) (g : G w w1) : At w wr v l := ⟨own_base h.1 g.size, g.trans h.2⟩
theorem At.nil (w : World) : At w w (.slice none 0 0) [] := ⟨World.ownsRow_nil _ _ _ _, G.refl _⟩
theorem At.more {w W3 w1 : World} {v v' : Value} {l : List Int} {x : Int} {tmp : Obj} (h : At w W3 v l) (ho : w1.ownsRow w.heap.size 3 1 v' (l.length + 1) (ints l ++ [.int .i64 x])) (hg : (W3.alloc tmp).grownBy w1 v.ownBlock) : At w w1 v' (l ++ [x]) := by
  refine ⟨by rw [ints_append, List.length_append]; exact ho, ?_⟩
  refine Below.grown (h.2.alloc tmp) hg (by have := h.2.size; simp; omega) fun j ej => ?_
  rcases h.1.2 with ⟨rfl, _⟩ | ⟨g, cap, cur, rfl, hb, _, _⟩
  · simp [Value.ownBlock] at ej
  · obtain rfl : g = j := by simpa [Value.ownBlock] using ej
    exact hb
/-- where a list lies, and its cells -/
theorem At.cells {w W : World} {v : Value} {l : List Int} (h : At w W v l) :
    (v = .slice none 0 0 ∧ l = []) ∨ ∃ g cap, v = .slice (some ⟨g, 0, none⟩) l.length cap ∧ w.heap.size ≤ g ∧ l.length ≤ cap ∧ cap ≤ maxLen ∧ ∀ (i : Nat) (x : Int), l[i]? = some x → W.cell? ⟨g, i, none⟩ = some (.int .i64 x) := by
  rcases h.1.2 with ⟨h1, h2⟩ | ⟨g, cap, cur, h1, h2, h3, h4, h5, h6, h7⟩
  · exact .inl ⟨h1, List.length_eq_zero_iff.1 h2⟩
  · refine .inr ⟨g, cap, h1, h2, h4, h5, fun i x hx => ?_⟩
    have hj : (ints l)[i]? = some (.int .i64 x) := by simp [ints, hx]
    rw [← h7] at hj
    have hj2 : cur.toList[i]? = some (.int .i64 x) := by
      rw [List.getElem?_take] at hj
      split at hj
      · exact hj
      · simp at hj
    simp only [World.cell?, h3]
    simpa using hj2
theorem cell_one_new (W : World) (B : Nat) (a : Value) (t : TypeId) (hs : W.heap.size = B) : ∀ (j : Nat) (u : Value), [a][j]? = some u → (W.alloc (.cells #[a] t)).cell? ((⟨B, 0, none⟩ : Addr).add j) = some u := by
  intro j u hj
  subst hs
  match j, hj with
  | 0, h => simp at h; subst h; simp [Addr.add]
  | j + 1, h => simp at h

/-- the first steps of a list of sharps or flats -/
def up (k : Nat) : List Int := (List.range k).map (fun k : Nat => sh k)
def dn (k : Nat) : List Int := (List.range k).map (fun k : Nat => sh (6 - k))
theorem up_succ (k : Nat) : up (k + 1) = up k ++ [sh k] := by simp [up, List.range_succ]
theorem dn_succ (k : Nat) : dn (k + 1) = dn k ++ [sh (6 - k)] := by simp [dn, List.range_succ]
theorem up_len (k : Nat) : (up k).length = k := by simp [up]
theorem dn_len (k : Nat) : (dn k).length = k := by simp [dn]
theorem sgL_up {f : Int} (h : 0 ≤ f) : sgL f = up f.toNat := by
  have e : (-f).toNat = 0 := by omega
  unfold sgL up; rw [e]; simp
theorem sgL_dn {f : Int} (h : f ≤ 0) : sgL f = dn (-f).toNat := by
  have e : f.toNat = 0 := by omega
  unfold sgL dn; rw [e]; simp

set_option maxRecDepth 100000 in
set_option maxHeartbeats 4000000 in
theorem Signature_ok (f : Int) (w : World) (hf : Sg f) (hT : Tab w) : Calls Tryd.prog 14 #[.int .i64 f] w fun e w' => ∃ v, e = .returned (.tuple #[v, .int .i64 0]) ∧ At w w' v (sgL f) := by
  obtain ⟨i0, hi, hz0, hz1, hz2⟩ := info_parts' iInfo
  have HS := Lib.hid hf
  have HT := Lib.hid hT
  obtain ⟨f0, f1⟩ := hf
  clear hT
  go_enter Tryd.func14, Tryd.ntmps14
  go_wp2_with fail
  refine (Check_any f _).mono ?_
  rintro e w1 ⟨rfl, rfl⟩
  rw [ck_ok HS.out]
  go_wp2_with fail
  go_loopg [5, 14] f.toNat (fun g y x wr => ∃ (v : Value) (k : Nat), v = y ∧ x = .int .i64 k ∧ g = f.toNat - k ∧ (k = 0 ∨ (k : Int) ≤ f) ∧ At w wr v (up k))
  case atStart => exact ⟨_, 0, rfl, rfl, rfl, .inl rfl, At.nil w⟩
  case round =>
    obtain ⟨v, k, rfl, rfl, hg, hk, hA⟩ := hrel
    have HG := Lib.hid hg
    clear hg
    by_cases c : (k : Int) < f
    · have hc := (HT.out.later hA.2).cell k (by omega)
      obtain ⟨X, hX⟩ : ∃ z : Int, Hid (z = sh k) := ⟨_, rfl⟩
      rw [← hX.out] at hc
      have HU := Lib.hid (show up (k + 1) = up k ++ [X] by rw [up_succ, hX.out])
      have hl := up_len k
      have HA := Lib.hid hA
      have hsz := hA.2.size
      clear hA hX hk
      have q := IntWalk.i64_in ((k : Int) + 1) (by omega)
      go_wp2_with (at_builtin; refine wpList_append_own _ rfl _ _ 25 rfl w.heap.size 3 i0 (.int .i64 0) 1 8 Tryd.underlying25 hi hz0 hz1 hz2 rfl (by decide) v (up k).length (ints (up k)) rfl (own_later HA.out.1 (by (repeat' (first | (with_reducible exact G.refl _) | (with_reducible assumption) | (with_reducible refine G.drewN ?_ _) | (with_reducible refine G.drew ?_) | (with_reducible refine G.alloc ?_ _) | (with_reducible refine G.setCell ?_ (by first | (with_reducible exact Nat.le_refl _) | (simp; done) | (simp; omega) | omega) _) | (with_reducible refine G.trans ?_ (by assumption)))))) ⟨wr.heap.size, 0, none⟩ 1 1 [.int .i64 X] rfl rfl (cell_one_new _ _ _ _ (by simp)) (by simp [Value.oneCell']) (by unfold maxLen; omega) (by omega) (by simp; omega) ?_; intro v' w1 hown' hgrow _)
      have hA5 := At.more HA.out hown' hgrow
      go_roundg (f.toNat - (k + 1))
      case measure => have := HG.out; omega
      case rel => exact ⟨v', k + 1, rfl, by go_num, rfl, .inr (by omega), by rw [HU.out]; exact hA5⟩
    · obtain rfl : k = f.toNat := by omega
      have gA := hA.2
      go_wp2_with fail
      go_loopg [5, 26] (-f).toNat (fun g y x wr => ∃ (v : Value) (k : Nat), v = y ∧ x = .int .i64 k ∧ g = (-f).toNat - k ∧ (k = 0 ∨ (k : Int) ≤ -f) ∧ At w wr v (up f.toNat ++ dn k))
      case atStart => exact ⟨_, 0, rfl, rfl, rfl, .inl rfl, by simpa [dn] using hA⟩
      case round =>
        obtain ⟨v, k, rfl, rfl, hg, hk, hA⟩ := hrel
        have HG2 := Lib.hid hg
        clear hg
        by_cases d : (k : Int) < -f
        · have hc := (HT.out.later hA.2).cell (6 - k) (by omega)
          obtain ⟨X, hX⟩ : ∃ z : Int, Hid (z = sh ((6 - k : Nat) : Int)) := ⟨_, rfl⟩
          rw [← hX.out] at hc
          have HU := Lib.hid (show up f.toNat ++ dn (k + 1) = (up f.toNat ++ dn k) ++ [X] by rw [dn_succ, hX.out, show (((6 - k : Nat) : Nat) : Int) = 6 - (k : Int) by omega, List.append_assoc])
          have hl : (up f.toNat ++ dn k).length = k := by rw [List.length_append, up_len, dn_len]; omega
          have HA := Lib.hid hA
          have hsz := hA.2.size
          clear hA hX hk
          have q := IntWalk.i64_in ((k : Int) + 1) (by omega)
          go_wp2_with (at_builtin; refine wpList_append_own _ rfl _ _ 25 rfl w.heap.size 3 i0 (.int .i64 0) 1 8 Tryd.underlying25 hi hz0 hz1 hz2 rfl (by decide) v (up f.toNat ++ dn k).length (ints (up f.toNat ++ dn k)) rfl (own_later HA.out.1 (by (repeat' (first | (with_reducible exact G.refl _) | (with_reducible assumption) | (with_reducible refine G.drewN ?_ _) | (with_reducible refine G.drew ?_) | (with_reducible refine G.alloc ?_ _) | (with_reducible refine G.setCell ?_ (by first | (with_reducible exact Nat.le_refl _) | (simp; done) | (simp; omega) | omega) _) | (with_reducible refine G.trans ?_ (by assumption)))))) ⟨wr.heap.size, 0, none⟩ 1 1 [.int .i64 X] rfl rfl (cell_one_new _ _ _ _ (by simp)) (by simp [Value.oneCell']) (by unfold maxLen; omega) (by omega) (by simp; omega) ?_; intro v' w1 hown' hgrow _)
          have hA5 := At.more HA.out hown' hgrow
          go_roundg ((-f).toNat - (k + 1))
          case measure => have := HG2.out; omega
          case rel => exact ⟨v', k + 1, rfl, by go_num, rfl, .inr (by omega), by rw [HU.out]; exact hA5⟩
        · obtain rfl : k = (-f).toNat := by omega
          have HL := Lib.hid (show sgL f = up f.toNat ++ dn (-f).toNat from rfl)
          go_wp2_with fail
          go_returns
          exact ⟨v, rfl, by rw [HL.out]; exact hA⟩

theorem Signature_bad (f : Int) (w : World) (hf : ¬ Sg f) : Calls Tryd.prog 14 #[.int .i64 f] w fun e w' => e = .returned (.tuple #[.slice none 0 0, .int .i64 2]) ∧ w = w' := by
  have HS := Lib.hid hf
  clear hf
  go_enter Tryd.func14, Tryd.ntmps14
  go_wp2_with fail
  refine (Check_any f _).mono ?_
  rintro e w1 ⟨rfl, rfl⟩
  rw [ck_bad HS.out]
  go_wp2_with fail
  go_returns
  exact ⟨rfl, rfl⟩

set_option maxRecDepth 100000 in
set_option maxHeartbeats 4000000 in
theorem rSignature_any (f : Int) (w : World) (hf : Sg f) : Calls Tryd.prog 19 #[.int .i64 f] w fun e w' => ∃ v, e = .returned v ∧ At w w' v (sgL f) := by
  obtain ⟨i0, hi, hz0, hz1, hz2⟩ := info_parts' iInfo
  obtain ⟨f0, f1⟩ := hf
  go_enter Tryd.func19, Tryd.ntmps19
  go_wp2_with fail
  go_loopg [3, 4] f.toNat (fun g y x wr => ∃ (v : Value) (k : Nat), v = y ∧ x = .int .i64 k ∧ g = f.toNat - k ∧ (k = 0 ∨ (k : Int) ≤ f) ∧ At w wr v (up k))
  case atStart => exact ⟨_, 0, rfl, rfl, rfl, .inl rfl, At.nil w⟩
  case round =>
    obtain ⟨v, k, rfl, rfl, hg, hk, hA⟩ := hrel
    have HG := Lib.hid hg
    clear hg
    by_cases c : (k : Int) < f
    · have hc := sharps_cell wr _ k rfl (by omega)
      obtain ⟨X, hX⟩ : ∃ z : Int, Hid (z = sh k) := ⟨_, rfl⟩
      rw [← hX.out] at hc
      have HU := Lib.hid (show up (k + 1) = up k ++ [X] by rw [up_succ, hX.out])
      have hl := up_len k
      have HA := Lib.hid hA
      have hsz := hA.2.size
      clear hA hX hk
      have q := IntWalk.i64_in ((k : Int) + 1) (by omega)
      go_wp2_with (first
        | (go_at_call 39; refine (Sharps_any _).mono ?_; rintro e w1 ⟨rfl, rfl⟩)
        | (at_builtin; refine wpList_append_own _ rfl _ _ 25 rfl w.heap.size 3 i0 (.int .i64 0) 1 8 Tryd.underlying25 hi hz0 hz1 hz2 rfl (by decide) v (up k).length (ints (up k)) rfl (own_later HA.out.1 (by (repeat' (first | (with_reducible exact G.refl _) | (with_reducible assumption) | (with_reducible refine G.drewN ?_ _) | (with_reducible refine G.drew ?_) | (with_reducible refine G.alloc ?_ _) | (with_reducible refine G.setCell ?_ (by first | (with_reducible exact Nat.le_refl _) | (simp; done) | (simp; omega) | omega) _) | (with_reducible refine G.trans ?_ (by assumption)))))) ⟨wr.heap.size + 1, 0, none⟩ 1 1 [.int .i64 X] rfl rfl (cell_one_new _ _ _ _ (by simp)) (by simp [Value.oneCell']) (by unfold maxLen; omega) (by omega) (by simp; omega) ?_; intro v' w1 hown' hgrow _))
      have hA5 := At.more (HA.out.later (G.alloc (G.refl _) _)) hown' hgrow
      go_roundg (f.toNat - (k + 1))
      case measure => have := HG.out; omega
      case rel => exact ⟨v', k + 1, rfl, by go_num, rfl, .inr (by omega), by rw [HU.out]; exact hA5⟩
    · obtain rfl : k = f.toNat := by omega
      have gA := hA.2
      go_wp2_with fail
      go_loopg [3, 5] (-f).toNat (fun g y x wr => ∃ (v : Value) (k : Nat), v = y ∧ x = .int .i64 k ∧ g = (-f).toNat - k ∧ (k = 0 ∨ (k : Int) ≤ -f) ∧ At w wr v (up f.toNat ++ dn k))
      case atStart => exact ⟨_, 0, rfl, rfl, rfl, .inl rfl, by simpa [dn] using hA⟩
      case round =>
        obtain ⟨v, k, rfl, rfl, hg, hk, hA⟩ := hrel
        have HG2 := Lib.hid hg
        clear hg
        by_cases d : (k : Int) < -f
        · have hc := sharps_cell wr _ (6 - k) rfl (by omega)
          obtain ⟨X, hX⟩ : ∃ z : Int, Hid (z = sh ((6 - k : Nat) : Int)) := ⟨_, rfl⟩
          rw [← hX.out] at hc
          have HU := Lib.hid (show up f.toNat ++ dn (k + 1) = (up f.toNat ++ dn k) ++ [X] by rw [dn_succ, hX.out, show (((6 - k : Nat) : Nat) : Int) = 6 - (k : Int) by omega, List.append_assoc])
          have hl : (up f.toNat ++ dn k).length = k := by rw [List.length_append, up_len, dn_len]; omega
          have HA := Lib.hid hA
          have hsz := hA.2.size
          clear hA hX hk
          have q := IntWalk.i64_in ((k : Int) + 1) (by omega)
          go_wp2_with (first
            | (go_at_call 39; refine (Sharps_any _).mono ?_; rintro e w1 ⟨rfl, rfl⟩)
            | (at_builtin; refine wpList_append_own _ rfl _ _ 25 rfl w.heap.size 3 i0 (.int .i64 0) 1 8 Tryd.underlying25 hi hz0 hz1 hz2 rfl (by decide) v (up f.toNat ++ dn k).length (ints (up f.toNat ++ dn k)) rfl (own_later HA.out.1 (by (repeat' (first | (with_reducible exact G.refl _) | (with_reducible assumption) | (with_reducible refine G.drewN ?_ _) | (with_reducible refine G.drew ?_) | (with_reducible refine G.alloc ?_ _) | (with_reducible refine G.setCell ?_ (by first | (with_reducible exact Nat.le_refl _) | (simp; done) | (simp; omega) | omega) _) | (with_reducible refine G.trans ?_ (by assumption)))))) ⟨wr.heap.size + 1, 0, none⟩ 1 1 [.int .i64 X] rfl rfl (cell_one_new _ _ _ _ (by simp)) (by simp [Value.oneCell']) (by unfold maxLen; omega) (by omega) (by simp; omega) ?_; intro v' w1 hown' hgrow _))
          have hA5 := At.more (HA.out.later (G.alloc (G.refl _) _)) hown' hgrow
          go_roundg ((-f).toNat - (k + 1))
          case measure => have := HG2.out; omega
          case rel => exact ⟨v', k + 1, rfl, by go_num, rfl, .inr (by omega), by rw [HU.out]; exact hA5⟩
        · obtain rfl : k = (-f).toNat := by omega
          have HL := Lib.hid (show sgL f = up f.toNat ++ dn (-f).toNat from rfl)
          go_wp2_with fail
          go_ret
          exact ⟨v, rfl, by rw [HL.out]; exact hA⟩
end Go.Proofs.YtdiokagnpiiijaaDoor
