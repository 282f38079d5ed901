/-! The plain mathematics of reading fractions: numbers, and quotients of them. -/
namespace Go.Proofs.YthengbhokamhbaaDoor.QP

def isDig (c : UInt8) : Bool := decide (48 ≤ c.toNat ∧ c.toNat ≤ 57)
/-- what is left when the digits end, after c digits -/
def doneP (len start c : Nat) (n : Nat) : Nat × Nat × Nat := if 0 < c then (n, start + c, 0) else if start + c = len then (0, start + c, 4) else (0, start + c, 6)
/-- the program's reading of a number: the number, the offset, the error -/
def scanP (len start : Nat) : List UInt8 → Nat → Nat → Nat × Nat × Nat
  | [], c, n => doneP len start c n
  | x :: l, c, n => if isDig x then (if c = 10 then (0, start, 5) else scanP len start l (c + 1) (10 * n + (x.toNat - 48))) else doneP len start c n
/-- the reference's reading: the number, the offset behind it, the error, its offset -/
def doneR (start c n : Nat) : Nat × Nat × Nat × Nat := if c = 0 then (0, start, 6, start) else if 10 < c then (0, start, 5, start) else (n, start + c, 0, 0)
def scanR (start : Nat) : List UInt8 → Nat → Nat → Nat × Nat × Nat × Nat
  | [], c, n => doneR start c n
  | x :: l, c, n => if isDig x then scanR start l (c + 1) (if c < 10 then 10 * n + (x.toNat - 48) else n) else doneR start c n

theorem scanR_long (start : Nat) (l : List UInt8) : ∀ c n, 10 < c → scanR start l c n = (0, start, 5, start) := by
  induction l with
  | nil => intro c n h; unfold scanR doneR; rw [if_neg (by omega), if_pos h]
  | cons x l ih =>
    intro c n h
    unfold scanR
    split
    · exact ih _ _ (by omega)
    · unfold doneR; rw [if_neg (by omega), if_pos h]

/-- the number that is read, its end, and the error with its offset, said once for both -/
def outR (r : Nat × Nat × Nat) : Nat × Nat × Nat × Nat := if r.2.2 = 0 then (r.1, r.2.1, 0, 0) else (0, r.2.1, r.2.2, r.2.1)

theorem scan_same (len start : Nat) (l : List UInt8) : ∀ c n, c ≤ 10 → (c = 0 → l ≠ [] → start ≠ len) → (c = 0 → l = [] → start = len) →
    (c ≠ 0 ∨ l ≠ []) →
    ∃ a e b, scanR start l c n = (a, e, b) ∧ (if (scanP len start l c n).2.2 = 0 then a = (scanP len start l c n).1 ∧ e = (scanP len start l c n).2.1 ∧ b = (0, 0)
      else a = 0 ∧ e = start ∧ b = ((scanP len start l c n).2.2, (scanP len start l c n).2.1) ∧ (scanP len start l c n).1 = 0 ∧ (scanP len start l c n).2.1 = start) := by
  induction l with
  | nil =>
    intro c n h _ _ hc
    have hc0 : c ≠ 0 := by simpa using hc
    unfold scanR scanP doneR doneP
    rw [if_neg hc0, if_neg (by omega), if_pos (by omega)]
    exact ⟨_, _, _, rfl, by simp⟩
  | cons x l ih =>
    intro c n h h0 _ _
    unfold scanR scanP
    by_cases d : isDig x = true
    · rw [if_pos d, if_pos d]
      by_cases hc : c = 10
      · rw [if_pos hc, scanR_long _ _ _ _ (by omega)]
        exact ⟨_, _, _, rfl, by simp⟩
      · rw [if_neg hc, if_pos (by omega)]
        exact ih (c + 1) _ (by omega) (by omega) (by omega) (Or.inl (by omega))
    · rw [if_neg d, if_neg d]
      by_cases hc : c = 0
      · subst hc
        have := h0 rfl (by simp)
        unfold doneR doneP
        rw [if_pos rfl, if_neg (by omega), if_neg (by omega)]
        exact ⟨_, _, _, rfl, by simp⟩
      · unfold doneR doneP
        rw [if_neg hc, if_neg (by omega), if_pos (by omega)]
        exact ⟨_, _, _, rfl, by simp⟩

/-- the number at an offset, as the program reads it -/
def numP (s : List UInt8) (start : Nat) : Nat × Nat × Nat := scanP s.length start (s.drop start) 0 0
/-- .. and as the reference does -/
def numR (s : List UInt8) (start : Nat) : Nat × Nat × Nat × Nat := if start = s.length then (0, start, 4, start) else scanR start (s.drop start) 0 0

theorem num_same (s : List UInt8) (start : Nat) (h : start ≤ s.length) :
    numR s start = if (numP s start).2.2 = 0 then ((numP s start).1, (numP s start).2.1, 0, 0) else (0, start, (numP s start).2.2, (numP s start).2.1) := by
  unfold numR
  by_cases e : start = s.length
  · rw [if_pos e]
    have : numP s start = (0, start, 4) := by
      unfold numP
      rw [List.drop_eq_nil_of_le (by omega)]
      unfold scanP doneP
      rw [if_neg (by omega), if_pos (by omega)]
      simp
    rw [this]; simp
  · rw [if_neg e]
    have hne : s.drop start ≠ [] := by
      intro z; have := List.drop_eq_nil_iff.1 z; omega
    obtain ⟨a, e', b, h1, h2⟩ := scan_same s.length start (s.drop start) 0 0 (by omega) (fun _ _ => e) (fun _ z => absurd z hne) (Or.inr hne)
    rw [h1]
    unfold numP
    split at h2
    · rename_i h3; rw [if_pos h3]; obtain ⟨x, y, z⟩ := h2; rw [x, y, z]
    · rename_i h3; rw [if_neg h3]; obtain ⟨x, y, z, _⟩ := h2; rw [x, y, z]

theorem numP_err (s : List UInt8) (start : Nat) (h : start ≤ s.length) (e : (numP s start).2.2 ≠ 0) : (numP s start).1 = 0 ∧ (numP s start).2.1 = start := by
  by_cases q : start = s.length
  · have : numP s start = (0, start, 4) := by
      unfold numP
      rw [List.drop_eq_nil_of_le (by omega)]
      unfold scanP doneP
      rw [if_neg (by omega), if_pos (by omega)]
      simp
    rw [this]; simp
  · have hne : s.drop start ≠ [] := by
      intro z; have := List.drop_eq_nil_iff.1 z; omega
    obtain ⟨a, e', b, h1, h2⟩ := scan_same s.length start (s.drop start) 0 0 (by omega) (fun _ _ => q) (fun _ z => absurd z hne) (Or.inr hne)
    unfold numP at *
    rw [if_neg e] at h2
    exact ⟨h2.2.2.2.1, h2.2.2.2.2⟩

/-- where a number ends -/
theorem scanP_end (len start : Nat) (l : List UInt8) : ∀ c n, start + c + l.length = len → (scanP len start l c n).2.1 ≤ len ∧ start ≤ (scanP len start l c n).2.1 := by
  induction l with
  | nil => intro c n h; unfold scanP doneP; simp at h; split <;> (try split) <;> (simp; omega)
  | cons x l ih =>
    intro c n h
    simp at h
    unfold scanP
    split
    · split
      · simp; omega
      · exact ih _ _ (by omega)
    · unfold doneP; split <;> (try split) <;> (simp; omega)

theorem numP_end (s : List UInt8) (start : Nat) (h : start ≤ s.length) : (numP s start).2.1 ≤ s.length ∧ start ≤ (numP s start).2.1 :=
  scanP_end _ _ _ _ _ (by simp; omega)

/-- a number that is read is small -/
theorem scanP_small (len start : Nat) (l : List UInt8) : ∀ c n, c ≤ 10 → n < 10 ^ c → (scanP len start l c n).1 < 10000000000 := by
  have pw : ∀ c : Nat, c ≤ 10 → 10 ^ c ≤ 10000000000 := fun c hc => by
    have : 10 ^ c ≤ 10 ^ 10 := Nat.pow_le_pow_right (by omega) hc
    simpa using this
  induction l with
  | nil => intro c n h hn; have := pw c h; unfold scanP doneP; split <;> (try split) <;> (simp; try omega)
  | cons x l ih =>
    intro c n h hn
    unfold scanP
    split
    · rename_i d
      split
      · simp
      · refine ih (c + 1) _ (by omega) ?_
        have : x.toNat ≤ 57 := by unfold isDig at d; simp at d; omega
        rw [Nat.pow_succ]; omega
    · have := pw c h; unfold doneP; split <;> (try split) <;> (simp; try omega)
theorem numP_small (s : List UInt8) (start : Nat) : (numP s start).1 < 10000000000 := scanP_small _ _ _ _ _ (by omega) (by simp)

/-- the sign: 1 if the text begins with '-' -/
def neg (s : List UInt8) : Bool := s.head? == some 45
def from0 (s : List UInt8) : Nat := if neg s then 1 else 0
theorem from0_le (s : List UInt8) : from0 s ≤ s.length := by
  unfold from0 neg
  cases s with
  | nil => simp
  | cons x l => split <;> simp
/-- numerator, denominator, offset, error -/
def quot (s : List UInt8) : Int × Int × Nat × Nat :=
  let a := numP s (from0 s)
  let m : Int := if neg s then -(a.1 : Int) else a.1
  if a.2.2 ≠ 0 ∨ a.2.1 = s.length then (m, 1, a.2.1, a.2.2)
  else if s[a.2.1]? ≠ some 47 then (0, 0, a.2.1, 6)
  else
    let b := numP s (a.2.1 + 1)
    (m, b.1, b.2.1, if b.2.2 = 0 ∧ b.2.1 < s.length then 6 else b.2.2)

theorem quot_one {s : List UInt8} {m : Int} {x y z : Nat} (hP : numP s (from0 s) = (x, y, z)) (hm : m = if neg s then -(x : Int) else x) (h : z ≠ 0 ∨ y = s.length) : quot s = (m, 1, y, z) := by
  unfold quot; simp only [hP]; rw [if_pos h, hm]
theorem quot_byte {s : List UInt8} {x y z : Nat} (hP : numP s (from0 s) = (x, y, z)) (h : z = 0) (h2 : y ≠ s.length) (h3 : s[y]? ≠ some 47) : quot s = (0, 0, y, 6) := by
  unfold quot; simp only [hP]; rw [if_neg (by simp [h, h2]), if_pos h3]
theorem quot_two {s : List UInt8} {m : Int} {x y z x2 y2 z2 : Nat} (hP : numP s (from0 s) = (x, y, z)) (hm : m = if neg s then -(x : Int) else x) (h : z = 0) (h2 : y ≠ s.length) (h3 : s[y]? = some 47) (hP2 : numP s (y + 1) = (x2, y2, z2)) :
    quot s = (m, (x2 : Int), y2, if z2 = 0 ∧ y2 < s.length then 6 else z2) := by
  unfold quot; simp only [hP, hP2]; rw [if_neg (by simp [h, h2]), if_neg (by simp [h3]), hm]

theorem quot_small (s : List UInt8) : -10000000000 < (quot s).1 ∧ (quot s).1 < 10000000000 ∧ 0 ≤ (quot s).2.1 ∧ (quot s).2.1 < 10000000000 := by
  have a := numP_small s (from0 s)
  have b := numP_small s ((numP s (from0 s)).2.1 + 1)
  unfold quot
  simp only []
  split
  · simp only []; split <;> omega
  · split
    · simp
    · simp only []; split <;> omega
end Go.Proofs.YthengbhokamhbaaDoor.QP
