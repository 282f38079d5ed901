import Derived.Test.YtgepjpbdfjcaaaaDoorRows
/-! Spanners, in plain terms. -/
namespace Go.Proofs.YtgepjpbdfjcaaaaDoor

structure Pl where
  m : Int
  a : Int
  s : Int
  v : Int
deriving DecidableEq
structure Sp where
  k : Int
  f : Pl
  t : Pl
deriving DecidableEq
def cmi (a b : Int) : Int := if a < b then -1 else if b < a then 1 else 0
theorem cmi_cases (a b : Int) : (a < b ∧ cmi a b = -1) ∨ (a = b ∧ cmi a b = 0) ∨ (b < a ∧ cmi a b = 1) := by
  unfold cmi
  by_cases h : a < b
  · rw [if_pos h]; omega
  · rw [if_neg h]; split <;> omega
/-- how two places stand -/
def cmP (p q : Pl) : Int := if cmi p.m q.m ≠ 0 then cmi p.m q.m else cmi p.a q.a
def PLt (p q : Pl) : Prop := p.m < q.m ∨ (p.m = q.m ∧ p.a < q.a)
instance (p q : Pl) : Decidable (PLt p q) := by unfold PLt; infer_instance
def PEq (p q : Pl) : Prop := p.m = q.m ∧ p.a = q.a
instance (p q : Pl) : Decidable (PEq p q) := by unfold PEq; infer_instance
theorem cmP_cases (p q : Pl) : (PLt p q ∧ cmP p q = -1) ∨ (PEq p q ∧ cmP p q = 0) ∨ (PLt q p ∧ cmP p q = 1) := by
  unfold cmP PLt PEq
  have h1 := cmi_cases p.m q.m
  have h2 := cmi_cases p.a q.a
  split <;> omega
theorem cmP_neg (p q : Pl) : cmP q p = - cmP p q := by
  have h1 := cmP_cases p q
  have h2 := cmP_cases q p
  unfold PLt PEq at h1 h2
  omega
def Kd (k : Int) : Prop := 1 ≤ k ∧ k ≤ 7
instance (k : Int) : Decidable (Kd k) := by unfold Kd; infer_instance
def InP (p : Pl) : Prop := 0 ≤ p.m ∧ p.m ≤ 1023 ∧ 0 ≤ p.a ∧ p.a ≤ 4398046511104 ∧ 0 ≤ p.s ∧ p.s ≤ 127 ∧ 0 ≤ p.v ∧ p.v ≤ 1
instance (p : Pl) : Decidable (InP p) := by unfold InP; infer_instance
def OfV (k : Int) : Prop := k = 1 ∨ k = 7
instance (k : Int) : Decidable (OfV k) := by unfold OfV; infer_instance
/-- the places belong together -/
def Tog (x : Sp) : Prop := x.f.s = x.t.s ∧ (OfV x.k → x.f.v = x.t.v)
instance (x : Sp) : Decidable (Tog x) := by unfold Tog; infer_instance
/-- the error of a span -/
def prS (x : Sp) : Int := if Kd x.k then if InP x.f ∧ InP x.t then if Tog x then if cmP x.f x.t < 0 then 0 else 25 else 23 else 2 else 11
/-- the first kind of the group -/
def gk (k : Int) : Int := if k = 3 then 2 else if k = 5 then 4 else k
/-- of one group -/
def Grp (a b : Sp) : Prop := gk a.k = gk b.k ∧ a.f.s = b.f.s ∧ (OfV a.k → a.f.v = b.f.v)
instance (a b : Sp) : Decidable (Grp a b) := by unfold Grp; infer_instance
theorem gk_of {a b : Int} (h : gk a = gk b) : (OfV a ↔ OfV b) ∧ (Kd a ↔ Kd b) := by
  unfold gk at h
  unfold OfV Kd
  split at h <;> split at h <;> (try split at h) <;> (try split at h) <;> omega
theorem Grp.symm {a b : Sp} (h : Grp a b) : Grp b a := ⟨h.1.symm, h.2.1.symm, fun k => (h.2.2 ((gk_of h.1).1.2 k)).symm⟩
def Ovl (a b : Sp) : Prop := 0 < cmP a.t b.f ∧ 0 < cmP b.t a.f
instance (a b : Sp) : Decidable (Ovl a b) := by unfold Ovl; infer_instance
def Tou (a b : Sp) : Prop := 0 ≤ cmP a.t b.f ∧ 0 ≤ cmP b.t a.f
instance (a b : Sp) : Decidable (Tou a b) := by unfold Tou; infer_instance
def Wi (a b : Sp) : Prop := 0 ≤ cmP a.f b.f ∧ cmP a.t b.t ≤ 0
instance (a b : Sp) : Decidable (Wi a b) := by unfold Wi; infer_instance
def Crs (a b : Sp) : Prop := Ovl a b ∧ (Wi a b ↔ Wi b a)
instance (a b : Sp) : Decidable (Crs a b) := by unfold Crs; infer_instance
/-- do two spans of a group exclude one another? -/
def Rul (a b : Sp) : Prop := if a.k = 1 then Crs a b else if a.k = 4 ∨ a.k = 5 ∨ a.k = 7 then Tou a b else Ovl a b
instance (a b : Sp) : Decidable (Rul a b) := by unfold Rul; infer_instance
def Cnf (a b : Sp) : Prop := Kd a.k ∧ Grp a b ∧ Rul a b
instance (a b : Sp) : Decidable (Cnf a b) := by unfold Cnf; infer_instance
theorem Ovl.symm {a b : Sp} (h : Ovl a b) : Ovl b a := ⟨h.2, h.1⟩
theorem Tou.symm {a b : Sp} (h : Tou a b) : Tou b a := ⟨h.2, h.1⟩
theorem Crs.symm {a b : Sp} (h : Crs a b) : Crs b a := ⟨h.1.symm, h.2.symm⟩
theorem Cnf.symm {a b : Sp} (h : Cnf a b) : Cnf b a := by
  obtain ⟨h1, h2, h3⟩ := h
  refine ⟨(gk_of h2.1).2.1 h1, h2.symm, ?_⟩
  have hg := h2.1
  unfold Rul at h3 ⊢
  unfold Kd at h1
  by_cases c1 : a.k = 1
  · rw [if_pos c1] at h3
    have : b.k = 1 := by unfold gk at hg; rw [c1] at hg; split at hg <;> (try split at hg) <;> (try split at hg) <;> (try split at hg) <;> omega
    rw [if_pos this]; exact h3.symm
  · rw [if_neg c1] at h3
    by_cases c2 : a.k = 4 ∨ a.k = 5 ∨ a.k = 7
    · rw [if_pos c2] at h3
      have : b.k = 4 ∨ b.k = 5 ∨ b.k = 7 := by unfold gk at hg; split at hg <;> (try split at hg) <;> (try split at hg) <;> (try split at hg) <;> omega
      rw [if_neg (by omega), if_pos this]; exact h3.symm
    · rw [if_neg c2] at h3
      have : ¬ b.k = 1 ∧ ¬ (b.k = 4 ∨ b.k = 5 ∨ b.k = 7) := by unfold gk at hg; split at hg <;> (try split at hg) <;> (try split at hg) <;> (try split at hg) <;> omega
      rw [if_neg this.1, if_neg this.2]; exact h3.symm
theorem Cnf.comm (a b : Sp) : Cnf a b ↔ Cnf b a := ⟨Cnf.symm, Cnf.symm⟩
/-- what is checked of a list: what came before, and the rest -/
def ckR (p : List Sp) : List Sp → Int × Int
  | [] => (-1, 0)
  | x :: r => if prS x = 0 then if p.any (fun y => decide (Cnf y x)) then ((p.length : Int), 26) else ckR (p ++ [x]) r else ((p.length : Int), prS x)
def ckS (l : List Sp) : Int × Int := if l.length ≤ 4096 then ckR [] l else (4096, 9)
theorem drop_one {α : Type} {l : List α} {i : Nat} {x : α} (h : l[i]? = some x) : l.drop i = x :: l.drop (i + 1) := by
  obtain ⟨hi, e⟩ := List.getElem?_eq_some_iff.1 h
  rw [List.drop_eq_getElem_cons hi, e]
theorem take_one {α : Type} {l : List α} {i : Nat} {x : α} (h : l[i]? = some x) : l.take (i + 1) = l.take i ++ [x] := by
  rw [List.take_add_one, h]; rfl
/-- in a list without errors all are proper, and no two exclude one another -/
theorem ckR_ok (r : List Sp) : ∀ p : List Sp, (ckR p r).2 = 0 ↔ (∀ x ∈ r, prS x = 0) ∧ (∀ x ∈ r, ∀ y ∈ p, ¬ Cnf y x) ∧ r.Pairwise (fun y x => ¬ Cnf y x) := by
  induction r with
  | nil => intro p; simp [ckR]
  | cons x r ih =>
    intro p
    rw [ckR]
    by_cases h1 : prS x = 0
    · rw [if_pos h1]
      by_cases h2 : p.any (fun y => decide (Cnf y x)) = true
      · rw [if_pos h2]
        obtain ⟨y, hy, hc⟩ := List.any_eq_true.1 h2
        constructor
        · intro h; cases h
        · rintro ⟨_, h, _⟩
          exact absurd (of_decide_eq_true hc) (h x (by simp) y hy)
      · rw [if_neg h2, ih]
        have h3 : ∀ y ∈ p, ¬ Cnf y x := fun y hy hc => h2 (List.any_eq_true.2 ⟨y, hy, decide_eq_true hc⟩)
        constructor
        · rintro ⟨a, b, c⟩
          refine ⟨?_, ?_, ?_⟩
          · intro z hz
            rcases List.mem_cons.1 hz with rfl | hz
            · exact h1
            · exact a z hz
          · intro z hz y hy
            rcases List.mem_cons.1 hz with rfl | hz
            · exact h3 y hy
            · exact b z hz y (by simp [hy])
          · exact List.pairwise_cons.2 ⟨fun z hz => b z hz x (by simp), c⟩
        · rintro ⟨a, b, c⟩
          obtain ⟨c1, c2⟩ := List.pairwise_cons.1 c
          refine ⟨fun z hz => a z (by simp [hz]), fun z hz y hy => ?_, c2⟩
          rcases List.mem_append.1 hy with hy | hy
          · exact b z (by simp [hz]) y hy
          · obtain rfl : y = x := by simpa using hy
            exact c1 z hz
    · rw [if_neg h1]
      constructor
      · intro h; exact absurd h h1
      · rintro ⟨a, _⟩; exact absurd (a x (by simp)) h1
theorem ckR_ok1 (r : List Sp) : ∀ p : List Sp, (ckR p r).2 = 0 → ckR p r = (-1, 0) := by
  induction r with
  | nil => intro p _; rfl
  | cons x r ih =>
    intro p h
    rw [ckR] at h ⊢
    by_cases h1 : prS x = 0
    · rw [if_pos h1] at h ⊢
      by_cases h2 : p.any (fun y => decide (Cnf y x)) = true
      · rw [if_pos h2] at h; cases h
      · rw [if_neg h2] at h ⊢; exact ih _ h
    · rw [if_neg h1] at h; exact absurd h h1
theorem ckS_ok {l : List Sp} (hl : l.length ≤ 4096) : (ckS l).2 = 0 ↔ (∀ x ∈ l, prS x = 0) ∧ l.Pairwise (fun y x => ¬ Cnf y x) := by
  unfold ckS
  rw [if_pos hl, ckR_ok]
  constructor
  · rintro ⟨a, _, c⟩; exact ⟨a, c⟩
  · rintro ⟨a, c⟩; exact ⟨a, fun _ _ _ h => by simp at h, c⟩
/-- does a span cover a place? -/
def Cov (x : Sp) (p : Pl) : Prop := x.f.s = p.s ∧ (OfV x.k → x.f.v = p.v) ∧ cmP x.f p ≤ 0 ∧ cmP p x.t ≤ 0
instance (x : Sp) (p : Pl) : Decidable (Cov x p) := by unfold Cov; infer_instance
end Go.Proofs.YtgepjpbdfjcaaaaDoor
