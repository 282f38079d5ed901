import Derived.Test.YtghlecocnflbnaaDoorRows
import Derived.Test.YtghlecocnflbnaaDoorMath
/-! Accidentals, in plain terms: notes, what is displayed, what is read. -/
namespace Go.Proofs.YtghlecocnflbnaaDoor

/-- a note; a place -/
structure Nt where
  t : Int
  st : Int
  al : Int
  oc : Int
  hd : Bool
  sh : Int
structure Pl where
  t : Int
  st : Int
  oc : Int
  k : Int
  pr : Bool
  hd : Bool
  bf : Int
def POk (s o : Int) : Prop := (0 ≤ s ∧ s ≤ 6) ∧ -1 ≤ o ∧ o ≤ 9
instance (s o : Int) : Decidable (POk s o) := by unfold POk; infer_instance
def AOk (a : Int) : Prop := -2 ≤ a ∧ a ≤ 2
instance (a : Int) : Decidable (AOk a) := by unfold AOk; infer_instance
/-- the index of a staff position -/
def ix (s o : Int) : Int := 7 * (o + 1) + s
theorem ix_bd {s o : Int} (h : POk s o) : 0 ≤ ix s o ∧ ix s o < 77 := by unfold POk at h; unfold ix; omega
theorem ix_mod {s o : Int} (h : POk s o) : ix s o % 7 = s := by unfold POk at h; unfold ix; omega
theorem ix_inj {s o s' o' : Int} (h : POk s o) (h' : POk s' o') (e : ix s o = ix s' o') : s = s' ∧ o = o' := by
  unfold POk at h h'; unfold ix at e; omega

/-- the errors of a note behind a tick, of notes, of all arguments -/
def ckN (b : Int) (n : Nt) : Int := if n.t < b then 25 else if POk n.st n.oc ∧ AOk n.al then (if 0 ≤ n.sh ∧ n.sh ≤ 2 then 0 else 11) else 18
def ckL : Int → List Nt → Int
  | _, [] => 0
  | b, n :: l => if ckN b n = 0 then ckL n.t l else ckN b n
def ckA (f : Int) (l : List Nt) : Int := if Sg f then (if l.length ≤ 2560 then ckL 0 l else 9) else 2
theorem ckN_ok {b : Int} {n : Nt} : ckN b n = 0 ↔ b ≤ n.t ∧ POk n.st n.oc ∧ AOk n.al ∧ 0 ≤ n.sh ∧ n.sh ≤ 2 := by
  unfold ckN
  by_cases h1 : n.t < b
  · rw [if_pos h1]; constructor
    · intro h; omega
    · intro h; omega
  · rw [if_neg h1]
    by_cases h2 : POk n.st n.oc ∧ AOk n.al
    · rw [if_pos h2]
      by_cases h3 : 0 ≤ n.sh ∧ n.sh ≤ 2
      · rw [if_pos h3]; exact ⟨fun _ => ⟨by omega, h2.1, h2.2, h3⟩, fun _ => rfl⟩
      · rw [if_neg h3]; exact ⟨fun h => absurd h (by decide), fun h => absurd h.2.2.2 h3⟩
    · rw [if_neg h2]; exact ⟨fun h => absurd h (by decide), fun h => absurd ⟨h.2.1, h.2.2.1⟩ h2⟩
/-- the notes are well formed -/
def NOk (n : Nt) : Prop := 0 ≤ n.t ∧ POk n.st n.oc ∧ AOk n.al ∧ 0 ≤ n.sh ∧ n.sh ≤ 2
def Srt (l : List Nt) : Prop := ∀ (i j : Nat) (a b : Nt), i ≤ j → l[i]? = some a → l[j]? = some b → a.t ≤ b.t
theorem ckL_ok : ∀ (l : List Nt) (b : Int), ckL b l = 0 → (∀ n ∈ l, b ≤ n.t ∧ POk n.st n.oc ∧ AOk n.al ∧ 0 ≤ n.sh ∧ n.sh ≤ 2) ∧ Srt l
  | [], b, _ => ⟨fun n h => (by cases h), fun i j a b _ h _ => (by simp at h)⟩
  | n :: l, b, h => by
    unfold ckL at h
    by_cases h0 : ckN b n = 0
    · rw [if_pos h0] at h
      obtain ⟨h1, h2⟩ := ckL_ok l n.t h
      have h3 := ckN_ok.1 h0
      refine ⟨fun m hm => ?_, fun i j x y hij hx hy => ?_⟩
      · rcases List.mem_cons.1 hm with rfl | hm
        · exact h3
        · have := h1 m hm; exact ⟨by omega, this.2⟩
      · match i, j, hij, hx, hy with
        | 0, 0, _, hx, hy => simp at hx hy; subst hx hy; exact Int.le_refl _
        | 0, j + 1, _, hx, hy =>
          simp at hx hy; subst hx; exact (h1 y (List.mem_of_getElem? hy)).1
        | i + 1, j + 1, hij, hx, hy => exact h2 i j x y (by omega) (by simpa using hx) (by simpa using hy)
    · rw [if_neg h0] at h; exact absurd h h0
theorem ckL_step {b : Int} {l : List Nt} {i : Nat} {n : Nt} (h : l[i]? = some n) (h0 : ckN b n = 0) : ckL b (l.drop i) = ckL n.t (l.drop (i + 1)) := by
  obtain ⟨hi, rfl⟩ := List.getElem?_eq_some_iff.1 h
  rw [List.drop_eq_getElem_cons hi, ckL, if_pos h0]
theorem ckL_stop {b : Int} {l : List Nt} {i : Nat} {n : Nt} (h : l[i]? = some n) (h0 : ckN b n ≠ 0) : ckL b (l.drop i) = ckN b n := by
  obtain ⟨hi, rfl⟩ := List.getElem?_eq_some_iff.1 h
  rw [List.drop_eq_getElem_cons hi, ckL, if_neg h0]
theorem ckA_ok {f : Int} {l : List Nt} (h : ckA f l = 0) : Sg f ∧ l.length ≤ 2560 ∧ (∀ n ∈ l, NOk n) ∧ Srt l ∧ ckL 0 l = 0 := by
  unfold ckA at h
  by_cases h1 : Sg f
  · rw [if_pos h1] at h
    by_cases h2 : l.length ≤ 2560
    · rw [if_pos h2] at h
      have := ckL_ok l 0 h
      exact ⟨h1, h2, this.1, this.2, h⟩
    · rw [if_neg h2] at h; exact absurd h (by decide)
  · rw [if_neg h1] at h; exact absurd h (by decide)

/-- is there another alteration at a note's tick and staff position? -/
def dif (a b : Nt) : Bool := decide (b.t = a.t ∧ b.st = a.st ∧ b.oc = a.oc ∧ b.al ≠ a.al)
theorem dif_comm (a b : Nt) : dif a b = dif b a := by
  unfold dif
  refine decide_eq_decide.2 ⟨fun h => ⟨h.1.symm, h.2.1.symm, h.2.2.1.symm, fun e => h.2.2.2 e.symm⟩, fun h => ⟨h.1.symm, h.2.1.symm, h.2.2.1.symm, fun e => h.2.2.2 e.symm⟩⟩
theorem dif_self (a : Nt) : dif a a = false := by unfold dif; simp
def cl (l : List Nt) (a : Nt) : Bool := l.any (dif a)
theorem cl_iff {l : List Nt} {a : Nt} : cl l a = true ↔ ∃ (j : Nat) (b : Nt), l[j]? = some b ∧ dif a b = true := by
  unfold cl
  rw [List.any_eq_true]
  constructor
  · rintro ⟨b, hb, h⟩
    obtain ⟨j, hj⟩ := List.mem_iff_getElem?.1 hb
    exact ⟨j, b, hj, h⟩
  · rintro ⟨j, b, hj, h⟩
    exact ⟨b, List.mem_of_getElem? hj, h⟩

/-- does a note need a mark; its mark; the alterations behind it -/
def nee (c : Bool) (n : Nt) (f : Int → Int) : Bool := c || (!n.hd && decide (n.al ≠ f (ix n.st n.oc)))
def mK (d : Bool) (n : Nt) : Int := if d = false ∧ n.sh = 0 then 0 else n.al + 3
def mP (d : Bool) (n : Nt) : Bool := !d && decide (n.sh = 2)
def upd (f : Int → Int) (p v : Int) : Int → Int := fun q => if q = p then v else f q
theorem upd_same (f : Int → Int) (p v : Int) : upd f p v p = v := if_pos rfl
theorem upd_other {f : Int → Int} {p v q : Int} (h : q ≠ p) : upd f p v q = f q := if_neg h
def nx (k : Int) (n : Nt) (f : Int → Int) : Int → Int := if k = 0 then f else upd f (ix n.st n.oc) n.al
def dsM (c : Nt → Bool) : (Int → Int) → List Nt → List (Int × Bool)
  | _, [] => []
  | f, n :: r => (mK (nee (c n) n f) n, mP (nee (c n) n f) n) :: dsM c (nx (mK (nee (c n) n f) n) n f) r
def dsF (c : Nt → Bool) : (Int → Int) → List Nt → (Int → Int)
  | f, [] => f
  | f, n :: r => dsF c (nx (mK (nee (c n) n f) n) n f) r
theorem dsM_len (c : Nt → Bool) : ∀ (l : List Nt) (f : Int → Int), (dsM c f l).length = l.length
  | [], _ => rfl
  | n :: l, f => by unfold dsM; rw [List.length_cons, List.length_cons, dsM_len c l]
theorem dsM_step {c : Nt → Bool} {f : Int → Int} {l : List Nt} {i : Nat} {n : Nt} (h : l[i]? = some n) : dsM c f (l.drop i) = (mK (nee (c n) n f) n, mP (nee (c n) n f) n) :: dsM c (nx (mK (nee (c n) n f) n) n f) (l.drop (i + 1)) := by
  obtain ⟨hi, rfl⟩ := List.getElem?_eq_some_iff.1 h
  rw [List.drop_eq_getElem_cons hi, dsM]
theorem dsF_step {c : Nt → Bool} {f : Int → Int} {l : List Nt} {i : Nat} {n : Nt} (h : l[i]? = some n) : dsF c f (l.drop i) = dsF c (nx (mK (nee (c n) n f) n) n f) (l.drop (i + 1)) := by
  obtain ⟨hi, rfl⟩ := List.getElem?_eq_some_iff.1 h
  rw [List.drop_eq_getElem_cons hi, dsF]
/-- the alterations of a signature -/
def sg0 (fi : Int) : Int → Int := fun p => al fi (p % 7)
def disp (fi : Int) (l : List Nt) : List (Int × Bool) := dsM (cl l) (sg0 fi) l
def carr (fi : Int) (l : List Nt) : Int → Int := dsF (cl l) (sg0 fi) l

/-- places: errors, alterations -/
def ckP (b : Int) (p : Pl) : Int := if p.t < b then 25 else if POk p.st p.oc then (if 0 ≤ p.k ∧ p.k ≤ 5 then (if p.hd = true ∧ ¬ AOk p.bf then 2 else 0) else 11) else 18
def ckM : Int → List Pl → Int
  | _, [] => 0
  | b, n :: l => if ckP b n = 0 then ckM n.t l else ckP b n
def ckB (f : Int) (l : List Pl) : Int := if Sg f then (if l.length ≤ 2560 then ckM 0 l else 9) else 2
theorem ckP_ok {b : Int} {p : Pl} : ckP b p = 0 ↔ b ≤ p.t ∧ POk p.st p.oc ∧ 0 ≤ p.k ∧ p.k ≤ 5 ∧ (p.hd = true → AOk p.bf) := by
  unfold ckP
  by_cases h1 : p.t < b
  · rw [if_pos h1]; constructor
    · intro h; omega
    · intro h; omega
  · rw [if_neg h1]
    by_cases h2 : POk p.st p.oc
    · rw [if_pos h2]
      by_cases h3 : 0 ≤ p.k ∧ p.k ≤ 5
      · rw [if_pos h3]
        by_cases h4 : p.hd = true ∧ ¬ AOk p.bf
        · rw [if_pos h4]; exact ⟨fun h => absurd h (by decide), fun h => absurd (h.2.2.2.2 h4.1) h4.2⟩
        · rw [if_neg h4]; exact ⟨fun _ => ⟨by omega, h2, h3.1, h3.2, fun e => Decidable.byContradiction fun k => h4 ⟨e, k⟩⟩, fun _ => rfl⟩
      · rw [if_neg h3]; exact ⟨fun h => absurd h (by decide), fun h => absurd ⟨h.2.2.1, h.2.2.2.1⟩ h3⟩
    · rw [if_neg h2]; exact ⟨fun h => absurd h (by decide), fun h => absurd h.2.1 h2⟩
theorem ckM_step {b : Int} {l : List Pl} {i : Nat} {n : Pl} (h : l[i]? = some n) (h0 : ckP b n = 0) : ckM b (l.drop i) = ckM n.t (l.drop (i + 1)) := by
  obtain ⟨hi, rfl⟩ := List.getElem?_eq_some_iff.1 h
  rw [List.drop_eq_getElem_cons hi, ckM, if_pos h0]
theorem ckM_stop {b : Int} {l : List Pl} {i : Nat} {n : Pl} (h : l[i]? = some n) (h0 : ckP b n ≠ 0) : ckM b (l.drop i) = ckP b n := by
  obtain ⟨hi, rfl⟩ := List.getElem?_eq_some_iff.1 h
  rw [List.drop_eq_getElem_cons hi, ckM, if_neg h0]
def rA (f : Int → Int) (p : Pl) : Int := if p.k = 0 then (if p.hd = true then p.bf else f (ix p.st p.oc)) else p.k - 3
def rF (f : Int → Int) (p : Pl) : Int → Int := if p.k = 0 then f else upd f (ix p.st p.oc) (p.k - 3)
def rdL : (Int → Int) → List Pl → List Int
  | _, [] => []
  | f, p :: l => rA f p :: rdL (rF f p) l
theorem rdL_step {f : Int → Int} {l : List Pl} {i : Nat} {n : Pl} (h : l[i]? = some n) : rdL f (l.drop i) = rA f n :: rdL (rF f n) (l.drop (i + 1)) := by
  obtain ⟨hi, rfl⟩ := List.getElem?_eq_some_iff.1 h
  rw [List.drop_eq_getElem_cons hi, rdL]
theorem rdL_len : ∀ (l : List Pl) (f : Int → Int), (rdL f l).length = l.length
  | [], _ => rfl
  | n :: l, f => by unfold rdL; rw [List.length_cons, List.length_cons, rdL_len l]
def read (fi : Int) (l : List Pl) : List Int := if ckB fi l = 0 then rdL (sg0 fi) l else []

/-- the place of a note with a mark -/
def plO (n : Nt) (m : Int × Bool) : Pl := ⟨n.t, n.st, n.oc, m.1, m.2, n.hd, if n.hd = true then n.al else 0⟩
def plL (l : List Nt) (m : List (Int × Bool)) : List Pl := List.zipWith plO l m
end Go.Proofs.YtghlecocnflbnaaDoor
