import Derived.Test.YtdiokagnpiiijaaDoorPrs
import Derived.Test.YtdiokagnpiiijaaDoorKnown
import Derived.Test.YtdiokagnpiiijaaDoorRNm
/-! What Parse reads is the name of what it returns. -/
namespace Go.Proofs.YtdiokagnpiiijaaDoor
open Go.RowKit

theorem index1_spec (c : UInt8) : ∀ l : List UInt8, Lib.index l [c] = -1 ∨ ∃ i : Nat, Lib.index l [c] = i ∧ l = l.take i ++ c :: l.drop (i + 1)
  | [] => .inl (by unfold Lib.index; rfl)
  | b :: l => by
    unfold Lib.index
    by_cases e : c = b
    · refine .inr ⟨0, ?_, ?_⟩
      · rw [if_pos (by simp [List.isPrefixOf, e])]; rfl
      · simp [e]
    · rw [if_neg (by simp [List.isPrefixOf, e])]
      rcases index1_spec c l with h | ⟨i, h, hl⟩
      · rw [h]; exact .inl rfl
      · have q : (Lib.index l [c] == -1) = false := beq_false_of_ne (by omega)
        refine .inr ⟨i + 1, ?_, ?_⟩
        · rw [q, h]; simp
        · simp only [List.take_succ_cons, List.drop_succ_cons, List.cons_append]
          rw [← hl]
theorem cut_join (l : List UInt8) (h : (Lib.cut l [32]).2.1 ≠ []) : l = (Lib.cut l [32]).1 ++ 32 :: (Lib.cut l [32]).2.1 := by
  unfold Lib.cut at h ⊢
  rcases index1_spec 32 l with e | ⟨i, e, hl⟩
  · rw [e] at h
    exact absurd rfl h
  · rw [e] at h ⊢
    rw [if_pos (by omega)]
    simpa using hl
theorem letter_of : ∀ c : Fin 256, kno (UInt8.ofNat c.1) = true → ltr (cst (UInt8.ofNat c.1)) = UInt8.ofNat c.1 ∧ 0 ≤ cst (UInt8.ofNat c.1) ∧ cst (UInt8.ofNat c.1) ≤ 6 := by decide +kernel
theorem letter_back (c : UInt8) (h : kno c = true) : ltr (cst c) = c ∧ 0 ≤ cst c ∧ cst c ≤ 6 := by
  have e : UInt8.ofNat c.toNat = c := by simp
  have k := letter_of ⟨c.toNat, c.toNat_lt⟩
  simp only [e] at k
  exact k h
theorem sgn_back (r : List UInt8) (h : sgn r < 3) : sig (sgn r - 1) = r ∧ -1 ≤ sgn r - 1 ∧ sgn r - 1 ≤ 1 := by
  unfold sgn at h ⊢
  by_cases h1 : r = [98]
  · subst h1; decide
  by_cases h2 : r = []
  · subst h2; decide
  by_cases h3 : r = [35]
  · subst h3; decide
  · rw [if_neg h1, if_neg h2, if_neg h3] at h; omega
theorem clV_back (a : List UInt8) (h : (clV a).2.2 = true) : a = ltr (clV a).1 :: sig (clV a).2.1 ∧ (0 ≤ (clV a).1 ∧ (clV a).1 ≤ 6) ∧ -1 ≤ (clV a).2.1 ∧ (clV a).2.1 ≤ 1 := by
  cases a with
  | nil => exact absurd h (by decide)
  | cons c r =>
    unfold clV at h ⊢
    dsimp only at h ⊢
    by_cases k : kno c = true ∧ sgn r < 3
    · rw [if_pos k]
      obtain ⟨k1, k2⟩ := letter_back c k.1
      obtain ⟨k3, k4⟩ := sgn_back r k.2
      exact ⟨by rw [k1, k3], k2, k4⟩
    · rw [if_neg k] at h; cases h
theorem ofE_back {s a : Int} {m : Bool} (h : ofE s a m = 0) : Cl s a ∧ Sg (pl s a - mi m) := by
  unfold ofE at h
  by_cases c : Cl s a
  · rw [if_pos c] at h
    refine ⟨c, ?_⟩
    by_cases d : Sg (pl s a - mi m)
    · exact d
    · rw [ck_bad d] at h; omega
  · rw [if_neg c] at h; omega
/-- what Parse answers: nothing, or the key whose name it read -/
theorem parV_back (l : List UInt8) : parV l = (0, false, 12) ∨ ∃ f m, parV l = (f, m, 0) ∧ Sg f ∧ l = kn (tS (f + mi m)) (tA (f + mi m)) m := by
  unfold parV parT
  by_cases c : (clV (Lib.cut l [32]).1).2.2 = true ∧ ((Lib.cut l [32]).2.1 = MAJ ∨ (Lib.cut l [32]).2.1 = MIN)
  · rw [if_pos c]
    by_cases d : ofE (clV (Lib.cut l [32]).1).1 (clV (Lib.cut l [32]).1).2.1 (decide ((Lib.cut l [32]).2.1 = MIN)) = 0
    · rw [if_pos d]
      refine .inr ⟨_, _, rfl, ?_⟩
      obtain ⟨d1, d2⟩ := ofE_back d
      obtain ⟨b1, b2, b3⟩ := clV_back _ c.1
      have hn : ofN (clV (Lib.cut l [32]).1).1 (clV (Lib.cut l [32]).1).2.1 (decide ((Lib.cut l [32]).2.1 = MIN)) = pl (clV (Lib.cut l [32]).1).1 (clV (Lib.cut l [32]).1).2.1 - mi (decide ((Lib.cut l [32]).2.1 = MIN)) := by
        unfold ofN; rw [if_pos ⟨d1, d2⟩]
      rw [hn]
      refine ⟨d2, ?_⟩
      have e : pl (clV (Lib.cut l [32]).1).1 (clV (Lib.cut l [32]).1).2.1 - mi (decide ((Lib.cut l [32]).2.1 = MIN)) + mi (decide ((Lib.cut l [32]).2.1 = MIN)) = pl (clV (Lib.cut l [32]).1).1 (clV (Lib.cut l [32]).1).2.1 := by omega
      rw [e]
      obtain ⟨t1, t2⟩ := t_of_pl b2.1 b2.2 (rfl : pl (clV (Lib.cut l [32]).1).1 (clV (Lib.cut l [32]).1).2.1 = _)
      rw [← t1, ← t2]
      have hne : (Lib.cut l [32]).2.1 ≠ [] := by
        rcases c.2 with q | q <;> rw [q] <;> exact fun z => by cases z
      have hm : mdw (decide ((Lib.cut l [32]).2.1 = MIN)) = (Lib.cut l [32]).2.1 := by
        rcases c.2 with q | q <;> rw [q] <;> rfl
      unfold kn
      rw [hm, ← List.cons_append, ← b1]
      exact cut_join l hne
    · rw [if_neg d]; exact .inl rfl
  · rw [if_neg c]; exact .inl rfl
/-- the names of two keys differ -/
theorem kn_inj' : ∀ i j : Fin 15, ∀ m m' : Bool, kn (tS ((i : Int) - 7 + mi m)) (tA ((i : Int) - 7 + mi m)) m = kn (tS ((j : Int) - 7 + mi m')) (tA ((j : Int) - 7 + mi m')) m' → i = j ∧ m = m' := by decide +kernel
theorem kn_inj {f g : Int} {m m' : Bool} (hf : Sg f) (hg : Sg g) (h : kn (tS (f + mi m)) (tA (f + mi m)) m = kn (tS (g + mi m')) (tA (g + mi m')) m') : f = g ∧ m = m' := by
  obtain ⟨f0, f1⟩ := hf
  obtain ⟨g0, g1⟩ := hg
  have e1 : (((⟨(f + 7).toNat, by omega⟩ : Fin 15) : Nat) : Int) - 7 = f := by
    show (((f + 7).toNat : Nat) : Int) - 7 = f
    omega
  have e2 : (((⟨(g + 7).toNat, by omega⟩ : Fin 15) : Nat) : Int) - 7 = g := by
    show (((g + 7).toNat : Nat) : Int) - 7 = g
    omega
  have k := kn_inj' ⟨(f + 7).toNat, by omega⟩ ⟨(g + 7).toNat, by omega⟩ m m'
  rw [e1, e2] at k
  obtain ⟨k1, k2⟩ := k h
  refine ⟨?_, k2⟩
  have := congrArg Fin.val k1
  simp only at this
  omega
end Go.Proofs.YtdiokagnpiiijaaDoor
