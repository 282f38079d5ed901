import Derived.Test.YtkooggakngheoaaDoorRPos
/-! The reference's list of the pitches with a number. -/
namespace Go.Proofs.YtkooggakngheoaaDoor
open Go.RowKit
attribute [local go_sem] World.cell?_alloc_some

/-- the alteration with which a step in an octave has a number; whether there is such a pitch -/
def lt (n s o : Int) : Int := n - 12 * (o + 1) - H s
def is (n s o : Int) : Prop := (-2 ≤ lt n s o ∧ lt n s o ≤ 2) ∧ 0 ≤ n ∧ n ≤ 127
instance (n s o : Int) : Decidable (is n s o) := by unfold is; infer_instance
def allS (n o : Int) (k : Nat) : List P3 := (List.range k).flatMap (fun s : Nat => if is n s o then [((s : Int), lt n s o, o)] else [])
def allO (n : Int) (k : Nat) : List P3 := (List.range k).flatMap (fun i : Nat => allS n ((i : Int) - 1) 7)
theorem allS_succ (n o : Int) (k : Nat) : allS n o (k + 1) = allS n o k ++ if is n k o then [((k : Int), lt n k o, o)] else [] := by unfold allS; rw [List.range_succ, List.flatMap_append]; simp
theorem allO_succ (n : Int) (k : Nat) : allO n (k + 1) = allO n k ++ allS n ((k : Int) - 1) 7 := by unfold allO; rw [List.range_succ, List.flatMap_append]; simp
theorem allS_len (n o : Int) : ∀ k : Nat, (allS n o k).length ≤ k
  | 0 => by simp [allS]
  | k + 1 => by
    have := allS_len n o k
    rw [allS_succ, List.length_append]
    split <;> simp <;> omega
theorem allO_len (n : Int) : ∀ k : Nat, (allO n k).length ≤ 7 * k
  | 0 => by simp [allO]
  | k + 1 => by
    have := allO_len n k
    have := allS_len n ((k : Int) - 1) 7
    rw [allO_succ, List.length_append]; omega
set_option maxRecDepth 100000 in
theorem all_eq0 : ((List.range 128).all fun n => allO (n : Int) 11 == enh (n : Int) (alts 5)) = true := by decide +kernel
theorem all_eq {n : Int} (h0 : 0 ≤ n) (h1 : n ≤ 127) : allO n 11 = enh n (alts 5) := by
  have h := List.all_eq_true.1 all_eq0 n.toNat (List.mem_range.2 (by omega))
  rw [show ((n.toNat : Nat) : Int) = n by omega] at h
  exact beq_iff_eq.1 h
theorem all_out {n : Int} (h : ¬ (0 ≤ n ∧ n ≤ 127)) : allO n 11 = [] := by
  unfold allO allS
  rw [List.flatMap_eq_nil_iff]
  intro i _
  rw [List.flatMap_eq_nil_iff]
  intro s _
  exact if_neg (fun k => h k.2)

/-- a list in the making -/
def At (w wr : World) (v : Value) (l : List P3) : Prop := wr.ownsRow w.heap.size 41 3 v l.length (flat l) ∧ G w wr
theorem At.later {w a b : World} {v : Value} {l : List P3} (h : At w a v l) (g : G a b) : At w b v l := ⟨own_later h.1 g, h.2.trans g⟩
theorem At.more {w W3 w1 : World} {v v' : Value} {l : List P3} {p : P3} {tmp : Obj} (h : At w W3 v l) (ho : w1.ownsRow w.heap.size 41 3 v' (l.length + 1) (flat l ++ cells3 p)) (hg : (W3.alloc tmp).grownBy w1 v.ownBlock) : At w w1 v' (l ++ [p]) := by
  refine ⟨by rw [flat_append, flat_one, List.length_append]; exact ho, ?_⟩
  refine Below.grown (h.2.alloc tmp) hg (by have := h.2.size; simp; omega) fun j ej => ?_
  rcases h.1.2 with ⟨rfl, _⟩ | ⟨g, cap, cur, rfl, hb, _, _⟩
  · simp [Value.ownBlock] at ej
  · obtain rfl : g = j := by simpa [Value.ownBlock] using ej
    exact hb
theorem At.base {w w1 wr : World} {v : Value} {l : List P3} (h : At w1 wr v l) (g : G w w1) : At w wr v l := ⟨own_base h.1 g.size, g.trans h.2⟩

set_option maxRecDepth 100000 in
set_option maxHeartbeats 4000000 in
theorem rAll_any (n : Int) (w : World) (n0 : -1000 ≤ n) (n1 : n ≤ 1000) : Calls Tryd.prog 29 #[.int .i64 n] w fun e w' => ∃ v, e = .returned v ∧ At w w' v (allO n 11) := by
  obtain ⟨i0, hi, hz0, hz1, hz2⟩ := info_parts pInfo
  go_enter Tryd.func29, Tryd.ntmps29
  go_wp2_with fail
  go_loopg [3, 4] 11 (fun g y x wr => ∃ (v : Value) (o : Int), v = y ∧ x = .int .i64 o ∧ g = (10 - o).toNat ∧ -1 ≤ o ∧ o ≤ 10 ∧ At w wr v (allO n (o + 1).toNat))
  case atStart => exact ⟨_, -1, rfl, rfl, rfl, by omega, by omega, World.ownsRow_nil _ _ _ _, G.refl _⟩
  case round =>
    obtain ⟨v, o, rfl, rfl, hg1, o0, o1, hA1⟩ := hrel
    have HG1 := Lib.hid hg1
    clear hg1
    by_cases ho : o ≤ 9
    · go_wp2_with fail
      go_loopg [3, 5] 7 (fun g y x wr => ∃ (v : Value) (s : Int), v = y ∧ x = .int .i64 s ∧ g = (7 - s).toNat ∧ 0 ≤ s ∧ s ≤ 7 ∧ At w wr v (allO n (o + 1).toNat ++ allS n o s.toNat))
      case atStart => exact ⟨_, 0, rfl, rfl, rfl, by omega, by omega, by simpa [allS] using hA1⟩
      case round =>
        obtain ⟨v2, s, rfl, rfl, hg2, s0, s1, hA2⟩ := hrel
        have HG2 := Lib.hid hg2
        clear hg2 hA1
        by_cases hs : s ≤ 6
        · have hsucc := allS_succ n o s.toNat
          rw [show ((s.toNat : Nat) : Int) = s by omega, show s.toNat + 1 = (s + 1).toNat by omega] at hsucc
          have hlen : (allO n (o + 1).toNat ++ allS n o s.toNat).length ≤ 400 := by
            have h1 := allO_len n (o + 1).toNat
            have h2 := allS_len n o s.toNat
            rw [List.length_append]; omega
          have hb := H_bd s
          obtain ⟨hh, HH⟩ : ∃ z : Int, Hid (z = H s) := ⟨_, rfl⟩
          rw [← HH.out] at hb
          have q1 := IntWalk.i64_in (o + 1) (by omega)
          have q2 := IntWalk.i64_in (12 * (o + 1)) (by omega)
          have q3 := IntWalk.i64_in (n - 12 * (o + 1)) (by omega)
          have q4 := IntWalk.i64_in (n - 12 * (o + 1) - hh) (by omega)
          have hl : lt n s o = n - 12 * (o + 1) - hh := by rw [HH.out]; rfl
          have hsucc : allO n (o + 1).toNat ++ allS n o (s + 1).toNat = (allO n (o + 1).toNat ++ allS n o s.toNat) ++ (if is n s o then [(s, lt n s o, o)] else []) := by rw [hsucc, List.append_assoc]
          generalize hll : allO n (o + 1).toNat ++ allS n o s.toNat = l at *
          have HA2 := Lib.hid hA2
          have hgr := hA2.2.size
          by_cases hok : is n s o
          · obtain ⟨⟨k0, k1⟩, k2, k3⟩ := id hok
            rw [hl] at k0 k1
            rw [if_pos hok, hl] at hsucc
            have HS := Lib.hid hsucc
            clear hsucc hok hl hA2
            go_wp2_with (first
              | (go_at_call 50; refine (rBase_any s _ s0 hs).mono ?_; rintro e W2 ⟨rfl, hG⟩; rw [← HH.out]; have hA4 := HA2.out.later (show G _ W2 from G.trans (by (repeat' (first | (with_reducible exact G.refl _) | (with_reducible refine G.drewN ?_ _) | (with_reducible refine G.drew ?_) | (with_reducible refine G.alloc ?_ _)))) hG); have hs2 := hG.size)
              | (at_builtin; refine wpList_append_own _ rfl _ _ 51 rfl w.heap.size 41 i0 (.agg #[.int .i64 0, .int .i64 0, .int .i64 0]) 3 24 Tryd.underlying51 hi hz0 hz1 hz2 rfl (by decide) v2 l.length (flat l) rfl (own_later hA4.1 (by (repeat' (first | (with_reducible exact G.refl _) | (with_reducible assumption) | (with_reducible refine G.drewN ?_ _) | (with_reducible refine G.drew ?_) | (with_reducible refine G.alloc ?_ _) | (with_reducible refine G.setCell ?_ (by first | (with_reducible exact Nat.le_refl _) | (simp; done) | (simp; omega) | omega) _) | (with_reducible refine G.trans ?_ (by assumption)))))) ⟨W2.heap.size, 0, none⟩ 1 1 (cells3 (s, n - 12 * (o + 1) - hh, o)) rfl rfl (cell_three_new _ _ _ _ _ _ (by simp)) (by simp [cells3, Value.oneCell']) (by unfold maxLen; omega) (by omega) (by have := hA4.2.size; simp; omega) ?_; intro v' w1 hown' hgrow _))
            have hA5 := At.more hA4 hown' hgrow
            go_roundg ((7 - (s + 1)).toNat)
            case measure => have := HG2.out; omega
            case rel => exact ⟨v', s + 1, rfl, rfl, rfl, by omega, by omega, by rw [HS.out]; exact hA5⟩
          · rw [if_neg hok, List.append_nil] at hsucc
            have hnn : n - 12 * (o + 1) - hh < -2 ∨ (-2 ≤ n - 12 * (o + 1) - hh ∧ 2 < n - 12 * (o + 1) - hh) ∨ ((-2 ≤ n - 12 * (o + 1) - hh ∧ n - 12 * (o + 1) - hh ≤ 2) ∧ n < 0) ∨ ((-2 ≤ n - 12 * (o + 1) - hh ∧ n - 12 * (o + 1) - hh ≤ 2) ∧ 0 ≤ n ∧ 127 < n) := by
              unfold is at hok; rw [hl] at hok; omega
            have HS := Lib.hid hsucc
            clear hsucc hok hl hA2
            rcases hnn with k0 | ⟨k0, k1⟩ | ⟨⟨k0, k1⟩, k2⟩ | ⟨⟨k0, k1⟩, k2, k3⟩
            all_goals
              go_wp2_with (go_at_call 50; refine (rBase_any s _ s0 hs).mono ?_; rintro e W2 ⟨rfl, hG⟩; rw [← HH.out]; have hA4 := HA2.out.later (show G _ W2 from G.trans (by (repeat' (first | (with_reducible exact G.refl _) | (with_reducible refine G.drewN ?_ _) | (with_reducible refine G.drew ?_) | (with_reducible refine G.alloc ?_ _)))) hG))
              go_roundg ((7 - (s + 1)).toNat)
              case measure => have := HG2.out; omega
              case rel => exact ⟨v2, s + 1, rfl, rfl, rfl, by omega, by omega, by rw [HS.out]; exact hA4⟩
        · have e7 : s.toNat = 7 := by omega
          rw [e7] at hA2
          have hsucc := allO_succ n (o + 1).toNat
          rw [show (((o + 1).toNat : Nat) : Int) - 1 = o by omega, show (o + 1).toNat + 1 = (o + 1 + 1).toNat by omega] at hsucc
          have HS := Lib.hid hsucc
          clear hsucc
          go_wp2_with fail
          go_roundg ((10 - (o + 1)).toNat)
          case measure => have := HG1.out; omega
          case rel => exact ⟨v2, o + 1, rfl, rfl, rfl, by omega, by omega, by rw [HS.out]; exact hA2⟩
    · have e11 : (o + 1).toNat = 11 := by omega
      rw [e11] at hA1
      go_wp2_with fail
      go_ret
      exact ⟨v, rfl, hA1⟩
end Go.Proofs.YtkooggakngheoaaDoor
