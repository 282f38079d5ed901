import Derived.Test.YtkmmmmbnddkcgaaDoorParse2
import Derived.Test.YtkmmmmbnddkcgaaDoorRefText
/-! What is written is read back. -/
namespace Go.Proofs.YtkmmmmbnddkcgaaDoor
open Go.RowKit QM QP

theorem nd_le : ∀ (k u : Nat), u < 10 ^ (k + 1) → Lib.nDigits u ≤ k + 1 := by
  intro k
  induction k with
  | zero => intro u h; rw [Lib.nDigits_small (by simpa using h)]; omega
  | succ k ih =>
    intro u h
    by_cases c : u < 10
    · rw [Lib.nDigits_small c]; omega
    · rw [Lib.nDigits_big c]
      have := ih (u / 10) (by rw [Nat.pow_succ] at h; omega)
      omega
theorem dig_of {r : Nat} (h : r < 10) : isDig (UInt8.ofNat (48 + r)) = true ∧ (UInt8.ofNat (48 + r)).toNat = 48 + r := by
  have : r = 0 ∨ r = 1 ∨ r = 2 ∨ r = 3 ∨ r = 4 ∨ r = 5 ∨ r = 6 ∨ r = 7 ∨ r = 8 ∨ r = 9 := by omega
  rcases this with rfl | rfl | rfl | rfl | rfl | rfl | rfl | rfl | rfl | rfl <;> decide
theorem dec_head (u : Nat) : ∃ d l, Lib.decDigits u = d :: l ∧ isDig d = true := by
  induction u using Nat.strongRecOn with
  | _ u ih =>
    by_cases c : u < 10
    · exact ⟨_, [], Lib.decDigits_one c, (dig_of c).1⟩
    · obtain ⟨d, l, h1, h2⟩ := ih (u / 10) (by omega)
      refine ⟨d, l ++ [UInt8.ofNat (48 + u % 10)], ?_, h2⟩
      rw [Lib.decDigits, dif_neg c, h1]
      rfl
theorem scan_one (len start r : Nat) (rest : List UInt8) (c n : Nat) (h : r < 10) (hc : c < 10) :
    scanP len start (UInt8.ofNat (48 + r) :: rest) c n = scanP len start rest (c + 1) (10 * n + r) := by
  rw [scanP, if_pos (dig_of h).1, if_neg (by omega), (dig_of h).2]
  congr 1; omega
theorem scan_dec (len start : Nat) (rest : List UInt8) (u : Nat) : ∀ c n, c + Lib.nDigits u ≤ 10 →
    scanP len start (Lib.decDigits u ++ rest) c n = scanP len start rest (c + Lib.nDigits u) (n * 10 ^ Lib.nDigits u + u) := by
  induction u using Nat.strongRecOn generalizing rest with
  | _ u ih =>
    intro c n h
    by_cases k : u < 10
    · rw [Lib.nDigits_small k] at h ⊢
      rw [Lib.decDigits_one k, List.singleton_append, scan_one _ _ _ _ _ _ k (by omega)]
      congr 1; omega
    · rw [Lib.nDigits_big k] at h ⊢
      have e : Lib.decDigits u = Lib.decDigits (u / 10) ++ [UInt8.ofNat (48 + u % 10)] := by rw [Lib.decDigits, dif_neg k]
      rw [e, List.append_assoc, ih (u / 10) (by omega) _ c n (by omega), List.singleton_append, scan_one _ _ _ _ _ _ (Nat.mod_lt _ (by omega)) (by omega), Nat.pow_succ]
      congr 1
      generalize 10 ^ Lib.nDigits (u / 10) = p
      have : n * (p * 10) = 10 * (n * p) := by rw [← Nat.mul_assoc, Nat.mul_comm]
      omega
/-- a number, behind something and ahead of nothing or of '/' -/
theorem num_dec (pre rest : List UInt8) (u : Nat) (h : u < 10000000000) (hr : rest = [] ∨ rest.head? = some 47) :
    numP (pre ++ (Lib.decDigits u ++ rest)) pre.length = (u, pre.length + Lib.nDigits u, 0) := by
  have b := nd_le 9 u (by simpa using h)
  have p := Lib.nDigits_pos u
  unfold numP
  rw [List.drop_left, scan_dec _ _ _ _ _ _ (by omega)]
  rcases hr with rfl | hr
  · rw [scanP, doneP, if_pos (by omega)]; simp
  · cases rest with
    | nil => cases hr
    | cons x l =>
      obtain rfl : x = 47 := by simpa using hr
      rw [scanP, if_neg (by decide), doneP, if_pos (by omega)]; simp
theorem from_minus (l : List UInt8) : neg (45 :: l) = true ∧ from0 (45 :: l) = 1 := by
  unfold from0 neg; simp
theorem from_dig {d : UInt8} (l : List UInt8) (h : isDig d = true) : neg (d :: l) = false ∧ from0 (d :: l) = 0 := by
  have : d ≠ 45 := by rintro rfl; revert h; decide
  unfold from0 neg; simp [this]
/-- the sign, the digits, the rest -/
theorem sign_parts (N : Int) (rest : List UInt8) : ∃ pre : List UInt8,
    Lib.itoa N ++ rest = pre ++ (Lib.decDigits N.natAbs ++ rest) ∧ from0 (Lib.itoa N ++ rest) = pre.length ∧ N = (if neg (Lib.itoa N ++ rest) then -(N.natAbs : Int) else N.natAbs) := by
  by_cases c : N < 0
  · refine ⟨[45], ?_, ?_, ?_⟩
    · unfold Lib.itoa; rw [if_pos c]; rfl
    · unfold Lib.itoa; rw [if_pos c]; exact (from_minus _).2
    · unfold Lib.itoa; rw [if_pos c, List.cons_append, (from_minus _).1]; simp; omega
  · obtain ⟨d, l, h1, h2⟩ := dec_head N.natAbs
    have e : Lib.itoa N = Lib.decDigits N.natAbs := by
      unfold Lib.itoa; rw [if_neg c]; congr 1; omega
    refine ⟨[], ?_, ?_, ?_⟩
    · rw [e]; rfl
    · rw [e, h1]; exact (from_dig _ h2).2
    · rw [e, h1, List.cons_append, (from_dig _ h2).1]; simp; omega
theorem quot_txt {N O : Int} (h : Cn N O) : (quot (txt N O)).1 = N ∧ (quot (txt N O)).2.1 = O + 1 ∧ (quot (txt N O)).2.2.2 = 0 := by
  obtain ⟨a1, a2, a3, a4, _⟩ := h
  by_cases c : 0 < O
  · obtain ⟨k, hk⟩ : ∃ k : Nat, (k : Int) = O + 1 := ⟨(O + 1).toNat, by omega⟩
    have e : txt N O = Lib.itoa N ++ (47 :: Lib.decDigits k) := by unfold txt; rw [if_pos c, ← hk, Lib.itoa_nonneg]
    obtain ⟨pre, p1, p2, p3⟩ := sign_parts N (47 :: Lib.decDigits k)
    have n1 : numP (txt N O) (from0 (txt N O)) = (N.natAbs, pre.length + Lib.nDigits N.natAbs, 0) := by
      rw [e, p2, p1]; exact num_dec pre _ _ (by omega) (Or.inr rfl)
    have hl : (pre ++ Lib.decDigits N.natAbs).length = pre.length + Lib.nDigits N.natAbs := by rw [List.length_append, Lib.decDigits_length]
    have e2 : txt N O = (pre ++ Lib.decDigits N.natAbs) ++ (47 :: Lib.decDigits k) := by rw [e, p1, List.append_assoc]
    have e3 : txt N O = ((pre ++ Lib.decDigits N.natAbs) ++ [47]) ++ (Lib.decDigits k ++ []) := by rw [e2, List.append_nil]; simp
    have n2 : numP (txt N O) (pre.length + Lib.nDigits N.natAbs + 1) = (k, pre.length + Lib.nDigits N.natAbs + 1 + Lib.nDigits k, 0) := by
      have := num_dec ((pre ++ Lib.decDigits N.natAbs) ++ [47]) [] k (by omega) (Or.inl rfl)
      rw [← e3] at this
      have l2 : ((pre ++ Lib.decDigits N.natAbs) ++ [47]).length = pre.length + Lib.nDigits N.natAbs + 1 := by rw [List.length_append, hl]; rfl
      rw [l2] at this
      exact this
    have len : (txt N O).length = pre.length + Lib.nDigits N.natAbs + 1 + Lib.nDigits k := by
      rw [e2, List.length_append, hl, List.length_cons, Lib.decDigits_length]; omega
    have at47 : (txt N O)[pre.length + Lib.nDigits N.natAbs]? = some 47 := by
      rw [e2, ← hl]; simp
    have q := quot_two (m := N) n1 (by rw [e]; exact p3) rfl (by omega) at47 n2
    rw [q]
    refine ⟨rfl, hk, ?_⟩
    simp only []
    rw [if_neg (by omega)]
  · have e : txt N O = Lib.itoa N ++ [] := by unfold txt; rw [if_neg c]
    obtain ⟨pre, p1, p2, p3⟩ := sign_parts N []
    have n1 : numP (txt N O) (from0 (txt N O)) = (N.natAbs, pre.length + Lib.nDigits N.natAbs, 0) := by
      rw [e, p2, p1]; exact num_dec pre _ _ (by omega) (Or.inl rfl)
    have len : (txt N O).length = pre.length + Lib.nDigits N.natAbs := by
      rw [e, p1, List.append_nil, List.length_append, Lib.decDigits_length]
    have q := quot_one (m := N) n1 (by rw [e]; exact p3) (Or.inr len.symm)
    rw [q]
    exact ⟨rfl, by simp only []; omega, rfl⟩
/-- THE TEXT OF A FRACTION IS READ AS THIS FRACTION. -/
theorem parse_txt {N O : Int} (h : Cn N O) : parseOut (txt N O) = (N, O, 0, 0) := by
  obtain ⟨q1, q2, q3⟩ := quot_txt h
  obtain ⟨a1, a2, a3, a4, a5⟩ := h
  obtain ⟨f1, f2, f3⟩ := @o_found N (O + 1) N (O + 1) (by omega) a1 a2 (by omega) (by omega) a5 rfl
  have f4 : O + 1 - 1 = O := by omega
  unfold parseOut
  rw [if_neg (by simp [q3]), q1, q2, f2, f3, f4, if_neg (by simp [f1])]
end Go.Proofs.YtkmmmmbnddkcgaaDoor
