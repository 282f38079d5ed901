import Derived.Test.YtfmjjbcmgkhgaaaDoorResp
import Derived.Test.YtfmjjbcmgkhgaaaDoorRef1
/-! The reference's list of all pitches. -/
namespace Go.Proofs.YtfmjjbcmgkhgaaaDoor
open Go.RowKit
attribute [local go_sem] World.cell?_alloc_some

def allA (s o : Int) (k : Nat) : List P3 := ((List.range k).map (fun i : Nat => ((s, (i : Int) - 2, o) : P3))).filter (fun p => decide (Ok p.1 p.2.1 p.2.2))
def allS (o : Int) (k : Nat) : List P3 := (List.range k).flatMap (fun s : Nat => allA s o 5)
def allO (k : Nat) : List P3 := (List.range k).flatMap (fun i : Nat => allS ((i : Int) - 1) 7)
theorem allA_succ (s o : Int) (k : Nat) : allA s o (k + 1) = allA s o k ++ if Ok s ((k : Int) - 2) o then [(s, (k : Int) - 2, o)] else [] := by
  unfold allA
  rw [List.range_succ, List.map_append, List.filter_append]
  congr 1
  by_cases h : Ok s ((k : Int) - 2) o
  · rw [if_pos h]; simp [h]
  · rw [if_neg h]; simp [h]
theorem allS_succ (o : Int) (k : Nat) : allS o (k + 1) = allS o k ++ allA k o 5 := by unfold allS; rw [List.range_succ, List.flatMap_append]; simp
theorem allO_succ (k : Nat) : allO (k + 1) = allO k ++ allS ((k : Int) - 1) 7 := by unfold allO; rw [List.range_succ, List.flatMap_append]; simp
theorem allA_len (s o : Int) (k : Nat) : (allA s o k).length ≤ k := by
  unfold allA
  refine Nat.le_trans (List.length_filter_le _ _) ?_
  simp
theorem allS_len (o : Int) : ∀ k : Nat, (allS o k).length ≤ 5 * k
  | 0 => by simp [allS]
  | k + 1 => by
    have := allS_len o k
    have := allA_len k o 5
    rw [allS_succ, List.length_append]; omega
theorem allO_len : ∀ k : Nat, (allO k).length ≤ 35 * k
  | 0 => by simp [allO]
  | k + 1 => by
    have := allO_len k
    have := allS_len ((k : Int) - 1) 7
    rw [allO_succ, List.length_append]; omega

/-- a list in the making -/
def At (w wr : World) (v : Value) (l : List P3) : Prop := wr.ownsRow w.heap.size 23 3 v l.length (flat l) ∧ G w wr
theorem At.later {w a b : World} {v : Value} {l : List P3} (h : At w a v l) (g : G a b) : At w b v l := ⟨own_later h.1 g, h.2.trans g⟩
theorem At.more {w W3 w1 : World} {v v' : Value} {l : List P3} {p : P3} {tmp : Obj} (h : At w W3 v l) (ho : w1.ownsRow w.heap.size 23 3 v' (l.length + 1) (flat l ++ cells3 p)) (hg : (W3.alloc tmp).grownBy w1 v.ownBlock) : At w w1 v' (l ++ [p]) := by
  refine ⟨by rw [flat_append, flat_one, List.length_append]; exact ho, ?_⟩
  refine Below.grown (h.2.alloc tmp) hg (by have := h.2.size; simp; omega) fun j ej => ?_
  rcases h.1.2 with ⟨rfl, _⟩ | ⟨g, cap, cur, rfl, hb, _, _⟩
  · simp [Value.ownBlock] at ej
  · obtain rfl : g = j := by simpa [Value.ownBlock] using ej
    exact hb

set_option maxRecDepth 100000 in
set_option maxHeartbeats 4000000 in
theorem rAll_any (w : World) : Calls Tryd.prog 40 #[] w fun e w' => ∃ v, e = .returned v ∧ At w w' v (allO 11) := by
  obtain ⟨i0, hi, hz0, hz1, hz2⟩ := info_parts pInfo
  go_enter Tryd.func40, Tryd.ntmps40
  go_wp2_with fail
  go_loopg [1, 2] 11 (fun g y x wr => ∃ (v : Value) (o : Int), v = y ∧ x = .int .i64 o ∧ g = (10 - o).toNat ∧ -1 ≤ o ∧ o ≤ 10 ∧ At w wr v (allO (o + 1).toNat))
  case atStart => exact ⟨_, -1, rfl, rfl, rfl, by omega, by omega, World.ownsRow_nil _ _ _ _, G.refl _⟩
  case round =>
    obtain ⟨v, o, rfl, rfl, hg1, o0, o1, hA1⟩ := hrel
    have HG1 := Lib.hid hg1
    clear hg1
    by_cases ho : o ≤ 9
    · go_wp2_with fail
      go_loopg [1, 3] 7 (fun g y x wr => ∃ (v : Value) (s : Int), v = y ∧ x = .int .i64 s ∧ g = (7 - s).toNat ∧ 0 ≤ s ∧ s ≤ 7 ∧ At w wr v (allO (o + 1).toNat ++ allS o s.toNat))
      case atStart => exact ⟨_, 0, rfl, rfl, rfl, by omega, by omega, by simpa [allS] using hA1⟩
      case round =>
        obtain ⟨v2, s, rfl, rfl, hg2, s0, s1, hA2⟩ := hrel
        have HG2 := Lib.hid hg2
        clear hg2 hA1
        by_cases hs : s ≤ 6
        · go_wp2_with fail
          go_loopg [1, 4] 5 (fun g y x wr => ∃ (v : Value) (a : Int), v = y ∧ x = .int .i64 a ∧ g = (3 - a).toNat ∧ -2 ≤ a ∧ a ≤ 3 ∧ At w wr v (allO (o + 1).toNat ++ allS o s.toNat ++ allA s o (a + 2).toNat))
          case atStart => exact ⟨_, -2, rfl, rfl, rfl, by omega, by omega, by simpa [allA] using hA2⟩
          case round =>
            obtain ⟨v3, a, rfl, rfl, hg3, a0, a1, hA3⟩ := hrel
            have HG3 := Lib.hid hg3
            clear hg3 hA2
            by_cases ha : a ≤ 2
            · have hsucc := allA_succ s o (a + 2).toNat
              rw [show (((a + 2).toNat : Int)) - 2 = a by omega, show (a + 2).toNat + 1 = (a + 1 + 2).toNat by omega] at hsucc
              have hlen : (allO (o + 1).toNat ++ allS o s.toNat ++ allA s o (a + 2).toNat).length ≤ 400 := by
                have h1 := allO_len (o + 1).toNat
                have h2 := allS_len o s.toNat
                have h3 := allA_len s o (a + 2).toNat
                rw [List.length_append, List.length_append]; omega
              by_cases hok : Ok s a o
              · have hd : decide (Ok s a o) = true := decide_eq_true hok
                rw [if_pos hok] at hsucc
                have HS := Lib.hid hsucc
                clear hsucc hok
                generalize hl : allO (o + 1).toNat ++ allS o s.toNat ++ allA s o (a + 2).toNat = l at *
                have hgr := hA3.2.size
                go_wp2_with (first
                  | (go_at_call 16; refine (rExists_any s a o _).mono ?_; rintro e W2 ⟨rfl, hG⟩; rw [hd]; obtain ⟨y0, y1, y2⟩ := tri_later hG; have hA4 := hA3.later (show G _ W2 from G.trans (by (repeat' (first | (with_reducible exact G.refl _) | (with_reducible refine G.drewN ?_ _) | (with_reducible refine G.drew ?_) | (with_reducible refine G.alloc ?_ _)))) hG); have hs2 := hG.size)
                  | (at_builtin; refine wpList_append_own _ rfl _ _ 34 rfl w.heap.size 23 i0 (.agg #[.int .i64 0, .int .i64 0, .int .i64 0]) 3 24 Tryd.underlying34 hi hz0 hz1 hz2 rfl (by decide) v3 l.length (flat l) rfl (own_later hA4.1 (by (repeat' (first | (with_reducible exact G.refl _) | (with_reducible assumption) | (with_reducible refine G.drewN ?_ _) | (with_reducible refine G.drew ?_) | (with_reducible refine G.alloc ?_ _) | (with_reducible refine G.setCell ?_ (by first | (with_reducible exact Nat.le_refl _) | (simp; done) | (simp; omega) | omega) _) | (with_reducible refine G.trans ?_ (by assumption)))))) ⟨W2.heap.size, 0, none⟩ 1 1 (cells3 (s, a, o)) rfl rfl (cell_three_new _ _ _ _ _ _ (by simp)) (by simp [cells3, Value.oneCell']) (by unfold maxLen; omega) (by omega) (by have := hA4.2.size; simp; omega) ?_; intro v' w1 hown' hgrow _))
                have hA5 := At.more hA4 hown' hgrow
                go_roundg ((3 - (a + 1)).toNat)
                case measure => have := HG3.out; omega
                case rel => exact ⟨v', a + 1, rfl, rfl, rfl, by omega, by omega, by rw [HS.out, ← List.append_assoc, hl]; exact hA5⟩
              · have hd : decide (Ok s a o) = false := decide_eq_false hok
                rw [if_neg hok, List.append_nil] at hsucc
                have HS := Lib.hid hsucc
                clear hsucc hok
                go_wp2_with (go_at_call 16; refine (rExists_any s a o _).mono ?_; rintro e W2 ⟨rfl, hG⟩; rw [hd]; have hA4 := hA3.later (show G _ W2 from G.trans (by (repeat' (first | (with_reducible exact G.refl _) | (with_reducible refine G.drewN ?_ _) | (with_reducible refine G.drew ?_) | (with_reducible refine G.alloc ?_ _)))) hG))
                go_roundg ((3 - (a + 1)).toNat)
                case measure => have := HG3.out; omega
                case rel => exact ⟨v3, a + 1, rfl, rfl, rfl, by omega, by omega, by rw [HS.out]; exact hA4⟩
            · have e5 : (a + 2).toNat = 5 := by omega
              rw [e5] at hA3
              have hsucc := allS_succ o s.toNat
              rw [show ((s.toNat : Nat) : Int) = s by omega, show s.toNat + 1 = (s + 1).toNat by omega] at hsucc
              have HS := Lib.hid hsucc
              clear hsucc
              go_wp2_with fail
              go_roundg ((7 - (s + 1)).toNat)
              case measure => have := HG2.out; omega
              case rel => exact ⟨v3, s + 1, rfl, rfl, rfl, by omega, by omega, by rw [HS.out, ← List.append_assoc]; exact hA3⟩
        · have e7 : s.toNat = 7 := by omega
          rw [e7] at hA2
          have hsucc := allO_succ (o + 1).toNat
          rw [show (((o + 1).toNat : Nat) : Int) - 1 = o by omega, show (o + 1).toNat + 1 = (o + 1 + 1).toNat by omega] at hsucc
          have HS := Lib.hid hsucc
          clear hsucc
          go_wp2_with fail
          go_roundg ((10 - (o + 1)).toNat)
          case measure => have := HG1.out; omega
          case rel => exact ⟨v2, o + 1, rfl, rfl, rfl, by omega, by omega, by rw [HS.out]; exact hA2⟩
    · have e11 : (o + 1).toNat = 11 := by omega
      rw [e11] at hA1
      go_wp2_with fail
      go_ret
      exact ⟨v, rfl, hA1⟩
end Go.Proofs.YtfmjjbcmgkhgaaaDoor
