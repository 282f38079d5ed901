import Derived.Test.YtfmjjbcmgkhgaaaDoorRName
/-! The reference's Parse: it answers what the program's answers. -/
namespace Go.Proofs.YtfmjjbcmgkhgaaaDoor
open Go.RowKit Go.Shelf
attribute [local go_sem] World.cell?_alloc_some

/-- the step that the first k letters give -/
def stp (n k : Int) : Int := if 0 < k ∧ n = 67 then 0 else if 1 < k ∧ n = 68 then 1 else if 2 < k ∧ n = 69 then 2 else if 3 < k ∧ n = 70 then 3 else if 4 < k ∧ n = 71 then 4 else if 5 < k ∧ n = 65 then 5 else if 6 < k ∧ n = 66 then 6 else -1
def ltn (k : Int) : Int := if k = 0 then 67 else if k = 1 then 68 else if k = 2 then 69 else if k = 3 then 70 else if k = 4 then 71 else if k = 5 then 65 else 66
theorem stp_next {n k : Int} (h0 : 0 ≤ k) (h1 : k ≤ 6) : stp n (k + 1) = if n = ltn k then k else stp n k := by
  by_cases hn : n = ltn k
  · rw [if_pos hn]
    subst hn
    rcases steps7 h0 h1 with rfl | rfl | rfl | rfl | rfl | rfl | rfl <;> decide
  · rw [if_neg hn]
    unfold ltn at hn
    rcases steps7 h0 h1 with rfl | rfl | rfl | rfl | rfl | rfl | rfl <;> simp at hn <;> simp [stp, hn]
theorem stp_ix (c : UInt8) : Lib.indexByte LET c = stp (c.toNat : Int) 7 := by
  have e : ∀ k : UInt8, ((c.toNat : Int) = (k.toNat : Int)) = (c = k) := by
    intro k
    simp only [eq_iff_iff]
    constructor
    · intro h; exact UInt8.toNat_inj.1 (by omega)
    · rintro rfl; rfl
  have e0 := e 67; have e1 := e 68; have e2 := e 69; have e3 := e 70; have e4 := e 71; have e5 := e 65; have e6 := e 66
  simp only [show (UInt8.toNat 67 : Int) = 67 from rfl, show (UInt8.toNat 68 : Int) = 68 from rfl, show (UInt8.toNat 69 : Int) = 69 from rfl, show (UInt8.toNat 70 : Int) = 70 from rfl, show (UInt8.toNat 71 : Int) = 71 from rfl, show (UInt8.toNat 65 : Int) = 65 from rfl, show (UInt8.toNat 66 : Int) = 66 from rfl] at e0 e1 e2 e3 e4 e5 e6
  by_cases h0 : c = 67
  · subst h0; rfl
  by_cases h1 : c = 68
  · subst h1; rfl
  by_cases h2 : c = 69
  · subst h2; rfl
  by_cases h3 : c = 70
  · subst h3; rfl
  by_cases h4 : c = 71
  · subst h4; rfl
  by_cases h5 : c = 65
  · subst h5; rfl
  by_cases h6 : c = 66
  · subst h6; rfl
  have hi : Lib.indexByte LET c = -1 := by simp [Lib.indexByte, Ne.symm h0, Ne.symm h1, Ne.symm h2, Ne.symm h3, Ne.symm h4, Ne.symm h5, Ne.symm h6]
  rw [hi]
  rw [← e0] at h0
  rw [← e1] at h1
  rw [← e2] at h2
  rw [← e3] at h3
  rw [← e4] at h4
  rw [← e5] at h5
  rw [← e6] at h6
  clear e e0 e1 e2 e3 e4 e5 e6 hi
  unfold stp
  (repeat' split) <;> omega
theorem ltr_ix {c : UInt8} (h : 0 ≤ Lib.indexByte LET c) : ltr (Lib.indexByte LET c) = c := by
  by_cases h0 : c = 67
  · subst h0; rfl
  by_cases h1 : c = 68
  · subst h1; rfl
  by_cases h2 : c = 69
  · subst h2; rfl
  by_cases h3 : c = 70
  · subst h3; rfl
  by_cases h4 : c = 71
  · subst h4; rfl
  by_cases h5 : c = 65
  · subst h5; rfl
  by_cases h6 : c = 66
  · subst h6; rfl
  exfalso
  simp [Lib.indexByte, Ne.symm h0, Ne.symm h1, Ne.symm h2, Ne.symm h3, Ne.symm h4, Ne.symm h5, Ne.symm h6] at h

theorem restF_some {l : List UInt8} {a v : Int} (h : restF l = some (a, v)) : l = sig a ++ Lib.itoa v := by
  unfold restF at h
  split at h
  · split at h
    · rename_i hh
      cases ha : alF (dg l) l with
      | none => rw [ha] at h; simp at h
      | some k =>
        rw [ha] at h
        simp at h
        obtain ⟨rfl, rfl⟩ := h
        unfold alF at ha
        have := List.find?_some ha
        rw [beq_iff_eq] at this
        rw [hh.1]
        exact this.symm
    · simp at h
  · simp at h
/-- what Parse answers where no name of the grid is the text -/
theorem parseF_none {c : UInt8} {r : List UInt8} (h : 0 ≤ Lib.indexByte LET c) (hn : ∀ a o, -2 ≤ a → a ≤ 2 → -1 ≤ o → o ≤ 9 → nm (Lib.indexByte LET c) a o ≠ c :: r) : parseF (c :: r) = ((0, 0, 0), 1, 3) := by
  rw [parseF_cons, if_neg (by omega)]
  cases hr : restF r with
  | none => rfl
  | some av =>
    obtain ⟨a, v⟩ := av
    obtain ⟨a0, a1, v0, v1⟩ := rest_al hr
    exact absurd (by unfold nm; rw [ltr_ix h, ← restF_some hr]) (hn a v a0 a1 v0 v1)
/-- and where one is -/
theorem parseF_at {x a o : Int} (h0 : 0 ≤ x) (h1 : x ≤ 6) (a0 : -2 ≤ a) (a1 : a ≤ 2) (o0 : -1 ≤ o) (o1 : o ≤ 9) : parseF (nm x a o) = ((ey x a o x, ey x a o a, ey x a o o), 0, er x a o) := by
  unfold nm
  rw [parseF_cons, ix_ltr h0 h1, if_neg (by omega), itoa_tx o0 o1, restF_tx a0 a1 o0 o1]
end Go.Proofs.YtfmjjbcmgkhgaaaDoor
