import Derived.Test.YtghlecocnflbnaaDoorRows
/-! Signatures, in numbers: the order of sharps, alterations, tonics, transposition. -/
namespace Go.Proofs.YtghlecocnflbnaaDoor

/-- the step at a place of the order of sharps, and the place of a step -/
def sh (k : Int) : Int := if k = 0 then 3 else if k = 1 then 0 else if k = 2 then 4 else if k = 3 then 1 else if k = 4 then 5 else if k = 5 then 2 else 6
def rk (s : Int) : Int := if s = 0 then 1 else if s = 1 then 3 else if s = 2 then 5 else if s = 3 then 0 else if s = 4 then 2 else if s = 5 then 4 else if s = 6 then 6 else -1
def Sg (f : Int) : Prop := -7 ≤ f ∧ f ≤ 7
instance (f : Int) : Decidable (Sg f) := by unfold Sg; infer_instance
/-- the alteration of a step under a signature -/
def al (f s : Int) : Int := if rk s < f then 1 else if 6 - rk s < -f then -1 else 0
theorem seven {s : Int} (h0 : 0 ≤ s) (h1 : s ≤ 6) : s = 0 ∨ s = 1 ∨ s = 2 ∨ s = 3 ∨ s = 4 ∨ s = 5 ∨ s = 6 := by omega
theorem sh_bd (k : Int) : 0 ≤ sh k ∧ sh k ≤ 6 := by unfold sh; (repeat' split) <;> omega
theorem rk_bd (s : Int) : -1 ≤ rk s ∧ rk s ≤ 6 := by unfold rk; (repeat' split) <;> omega
theorem rk_in {s : Int} (h0 : 0 ≤ s) (h1 : s ≤ 6) : 0 ≤ rk s ∧ rk s ≤ 6 := by
  rcases seven h0 h1 with rfl | rfl | rfl | rfl | rfl | rfl | rfl <;> decide
theorem rk_sh {k : Int} (h0 : 0 ≤ k) (h1 : k ≤ 6) : rk (sh k) = k := by
  rcases seven h0 h1 with rfl | rfl | rfl | rfl | rfl | rfl | rfl <;> decide
theorem sh_rk {s : Int} (h0 : 0 ≤ s) (h1 : s ≤ 6) : sh (rk s) = s := by
  rcases seven h0 h1 with rfl | rfl | rfl | rfl | rfl | rfl | rfl <;> decide
theorem rk_out {s : Int} (h : s < 0 ∨ 6 < s) : rk s = -1 := by
  unfold rk; (repeat' split) <;> omega
theorem al_bd (f s : Int) : -1 ≤ al f s ∧ al f s ≤ 1 := by unfold al; (repeat' split) <;> omega

/-- the steps that a signature alters -/
def sgL (f : Int) : List Int := (List.range f.toNat).map (fun k : Nat => sh k) ++ (List.range (-f).toNat).map (fun k : Nat => sh (6 - k))

/-- the tonic of the key with a place on the line of fifths -/
def mi (m : Bool) : Int := if m then 3 else 0
def tS (n : Int) : Int := sh ((n + 8) % 7)
def tA (n : Int) : Int := (n + 8) / 7 - 1
def pl (s a : Int) : Int := rk s - 1 + 7 * a
theorem pl_t {n : Int} : pl (tS n) (tA n) = n := by
  unfold pl tS tA
  rw [rk_sh (by omega) (by omega)]; omega
theorem pl_inj {s a s' a' : Int} (h0 : 0 ≤ s) (h1 : s ≤ 6) (h2 : 0 ≤ s') (h3 : s' ≤ 6) (h : pl s a = pl s' a') : s = s' ∧ a = a' := by
  have b := rk_in h0 h1
  have b' := rk_in h2 h3
  unfold pl at h
  have e : a = a' := by omega
  have e2 : rk s = rk s' := by omega
  exact ⟨by rw [← sh_rk h0 h1, ← sh_rk h2 h3, e2], e⟩
theorem t_of_pl {s a n : Int} (h0 : 0 ≤ s) (h1 : s ≤ 6) (h : pl s a = n) : s = tS n ∧ a = tA n :=
  pl_inj h0 h1 (sh_bd _).1 (sh_bd _).2 (h.trans pl_t.symm)
theorem tS_bd (n : Int) : 0 ≤ tS n ∧ tS n ≤ 6 := sh_bd _
theorem tA_bd {n : Int} (h0 : -7 ≤ n) (h1 : n ≤ 10) : -1 ≤ tA n ∧ tA n ≤ 1 := by unfold tA; omega

/-- a place reduced to a signature -/
def red (n : Int) : Int := if 7 < n then (n - 8) % 12 - 4 else if n < -7 then (n + 7) % 12 - 7 else n
theorem red_down {n : Int} (h : 7 < n) : red (n - 12) = red n := by unfold red; (repeat' split) <;> omega
theorem red_up {n : Int} (h : n < -7) : red (n + 12) = red n := by unfold red; (repeat' split) <;> omega
theorem red_in {n : Int} (h : Sg n) : red n = n := by unfold red; unfold Sg at h; (repeat' split) <;> omega
theorem red_sg (n : Int) : Sg (red n) := by unfold red Sg; (repeat' split) <;> omega
def Iv (s t : Int) : Prop := (-77 ≤ s ∧ s ≤ 77) ∧ (-140 ≤ t ∧ t ≤ 140)
instance (s t : Int) : Decidable (Iv s t) := by unfold Iv; infer_instance
end Go.Proofs.YtghlecocnflbnaaDoor
