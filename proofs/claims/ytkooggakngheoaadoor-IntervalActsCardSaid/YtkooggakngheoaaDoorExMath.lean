import Derived.Test.YtkooggakngheoaaDoorIv10
import Derived.Test.YtkooggakngheoaaDoorEnhNe
/-! What Transpose and Exact answer: the least pitch by nearness; the pitch at a place. -/
namespace Go.Proofs.YtkooggakngheoaaDoor

def dP (p : P3) (q : Int) : Int := dst p.1 p.2.1 p.2.2 q
def kP (p : P3) : Int := k2 p.1 p.2.1 p.2.2
def hP (p : P3) : Int := ht p.1 p.2.1 p.2.2
def OkQ (p : P3) : Prop := Ok p.1 p.2.1 p.2.2
instance (p : P3) : Decidable (OkQ p) := by unfold OkQ; infer_instance
theorem nrP_cases (x b : P3) (q : Int) : (nrP x b q < 0 ∧ dP x q ≤ dP b q) ∨ (0 ≤ nrP x b q ∧ dP b q ≤ dP x q) := by
  unfold nrP ner dP
  have h := cmi_cases (dst x.1 x.2.1 x.2.2 q) (dst b.1 b.2.1 b.2.2 q)
  rcases h with ⟨h1, h2⟩ | ⟨h1, h2⟩ | ⟨h1, h2⟩
  · rw [h2, if_pos (by decide)]; omega
  · rw [h2, if_neg (by decide)]; omega
  · rw [h2, if_pos (by decide)]; omega
theorem mnF_mem (q : Int) : ∀ (r : List P3) (e : P3), mnF q e r ∈ e :: r
  | [], e => by simp [mnF]
  | x :: r, e => by
    unfold mnF
    have h := mnF_mem q r (if nrP x e q < 0 then x else e)
    split at h
    · rename_i c; rw [if_pos c]; exact List.mem_cons_of_mem _ h
    · rename_i c; rw [if_neg c]
      rcases List.mem_cons.1 h with h | h
      · rw [h]; exact List.mem_cons_self
      · exact List.mem_cons_of_mem _ (List.mem_cons_of_mem _ h)
theorem mnF_le (q : Int) : ∀ (r : List P3) (e x : P3), x ∈ e :: r → dP (mnF q e r) q ≤ dP x q
  | [], e, x, h => by
    have : x = e := by simpa using h
    subst this; simp [mnF]
  | y :: r, e, x, h => by
    unfold mnF
    have hc := nrP_cases y e q
    rcases List.mem_cons.1 h with h | h
    · subst h
      refine Int.le_trans (mnF_le q r _ _ List.mem_cons_self) ?_
      split <;> omega
    · rcases List.mem_cons.1 h with h | h
      · subst h
        refine Int.le_trans (mnF_le q r _ _ List.mem_cons_self) ?_
        split <;> omega
      · exact mnF_le q r _ _ (List.mem_cons_of_mem _ h)
theorem mnL_mem {q : Int} {l : List P3} (h : l ≠ []) : mnL q l ∈ l := by
  cases l with
  | nil => exact absurd rfl h
  | cons e r => exact mnF_mem q r e
theorem mnL_le {q : Int} {l : List P3} {x : P3} (h : x ∈ l) : dP (mnL q l) q ≤ dP x q := by
  cases l with
  | nil => simp at h
  | cons e r => exact mnF_le q r e x h
/-- the reference's way: the first of the nearest -/
def rdst (a b : Int) : Int := if b < a then a - b else b - a
def tbF (q : Int) (best : P3) : List P3 → P3
  | [] => best
  | x :: r => tbF q (if rdst (7 * x.2.2 + x.1) q < rdst (7 * best.2.2 + best.1) q then x else best) r
def tbL (q : Int) : List P3 → P3
  | [] => (0, 0, 0)
  | e :: r => tbF q e r
theorem dP_ok {p : P3} (h : OkQ p) (q : Int) : dP p q = rdst (7 * p.2.2 + p.1) q := by
  unfold dP dst rdst
  rw [show k2 p.1 p.2.1 p.2.2 = 7 * p.2.2 + p.1 from if_pos h]
  split <;> omega
theorem mnF_tb (q : Int) : ∀ (r : List P3) (e : P3), (∀ p ∈ e :: r, OkQ p) → (∀ p ∈ r, hP p = hP e) → (e :: r).Pairwise (fun a b => kP a < kP b) → mnF q e r = tbF q e r
  | [], e, _, _, _ => rfl
  | x :: r, e, ho, hh, hp => by
    unfold mnF tbF
    have hx := ho x (by simp)
    have he := ho e (by simp)
    have k := List.pairwise_cons.1 hp
    have kx := k.1 x (by simp)
    have hxe := hh x (by simp)
    have kk := List.pairwise_cons.1 k.2
    have e1 : (nrP x e q < 0) = (rdst (7 * x.2.2 + x.1) q < rdst (7 * e.2.2 + e.1) q) := by
      rw [← dP_ok hx, ← dP_ok he]
      have h := cmi_cases (dP x q) (dP e q)
      have hl := lex_cases (k1 x.1 x.2.1 x.2.2) (kP x) (k1 e.1 e.2.1 e.2.2) (kP e)
      have k1x : k1 x.1 x.2.1 x.2.2 = hP x := if_pos hx
      have k1e : k1 e.1 e.2.1 e.2.2 = hP e := if_pos he
      rw [k1x, k1e] at hl
      have hn : nrP x e q = if cmi (dP x q) (dP e q) ≠ 0 then cmi (dP x q) (dP e q) else lex (hP x) (kP x) (hP e) (kP e) := by
        unfold nrP ner
        rw [k1x, k1e]; rfl
      rw [hn]
      apply propext
      rcases h with ⟨h1, h2⟩ | ⟨h1, h2⟩ | ⟨h1, h2⟩
      · rw [h2, if_pos (by decide)]; omega
      · rw [h2, if_neg (by decide)]; omega
      · rw [h2, if_pos (by decide)]; omega
    have e2 : (if nrP x e q < 0 then x else e) = (if rdst (7 * x.2.2 + x.1) q < rdst (7 * e.2.2 + e.1) q then x else e) := by
      by_cases c : nrP x e q < 0
      · rw [if_pos c, if_pos (e1 ▸ c)]
      · rw [if_neg c, if_neg (e1 ▸ c)]
    rw [e2]
    split
    · exact mnF_tb q r x (fun p h => ho p (List.mem_cons_of_mem _ h)) (fun p h => (hh p (List.mem_cons_of_mem _ h)).trans hxe.symm) k.2
    · refine mnF_tb q r e (fun p h => ?_) (fun p h => hh p (List.mem_cons_of_mem _ h)) ?_
      · rcases List.mem_cons.1 h with h | h
        · exact h ▸ he
        · exact ho p (List.mem_cons_of_mem _ (List.mem_cons_of_mem _ h))
      · exact List.pairwise_cons.2 ⟨fun b hb => Int.lt_trans kx (kk.1 b hb), kk.2⟩
/-- all pitches with a number: what holds of them -/
def gdL (n : Int) : List P3 → Bool
  | [] => true
  | p :: r => decide (OkQ p) && decide (hP p = n) && r.all (fun b => decide (kP p < kP b)) && gdL n r
theorem gdL_ok {n : Int} : ∀ {l : List P3}, gdL n l = true → (∀ p ∈ l, OkQ p ∧ hP p = n) ∧ l.Pairwise (fun a b => kP a < kP b)
  | [], _ => ⟨fun p h => by simp at h, List.Pairwise.nil⟩
  | p :: r, h => by
    unfold gdL at h
    simp only [Bool.and_eq_true, decide_eq_true_eq, List.all_eq_true] at h
    obtain ⟨⟨⟨h1, h2⟩, h3⟩, h4⟩ := h
    obtain ⟨k1, k2⟩ := gdL_ok h4
    refine ⟨fun x hx => ?_, List.pairwise_cons.2 ⟨h3, k2⟩⟩
    rcases List.mem_cons.1 hx with e | e
    · subst e; exact ⟨h1, h2⟩
    · exact k1 x e
theorem enh_gd0 : ((List.range 128).all fun n => gdL (n : Int) (enh (n : Int) (alts 5))) = true := by decide +kernel
theorem enh_gd {n : Int} (h0 : 0 ≤ n) (h1 : n ≤ 127) : (∀ p ∈ enh n (alts 5), OkQ p ∧ hP p = n) ∧ (enh n (alts 5)).Pairwise (fun a b => kP a < kP b) := by
  have h := List.all_eq_true.1 enh_gd0 n.toNat (List.mem_range.2 (by omega))
  rw [show ((n.toNat : Nat) : Int) = n by omega] at h
  exact gdL_ok h
theorem mnL_tb {n q : Int} (h0 : 0 ≤ n) (h1 : n ≤ 127) : mnL q (enh n (alts 5)) = tbL q (enh n (alts 5)) := by
  obtain ⟨a, b⟩ := enh_gd h0 h1
  generalize enh n (alts 5) = l at *
  cases l with
  | nil => rfl
  | cons e r => exact mnF_tb q r e (fun p h => (a p h).1) (fun p h => ((a p (List.mem_cons_of_mem _ h)).2).trans (a e (by simp)).2.symm) b
/-- the pitch at a staff position among them -/
def atQ (q : Int) (p : P3) : Bool := decide (7 * p.2.2 + p.1 = q)
def fndL (q : Int) (l : List P3) : Option P3 := l.find? (atQ q)
theorem kP_ok {p : P3} (h : OkQ p) : kP p = 7 * p.2.2 + p.1 := if_pos h
theorem pw_inj {l : List P3} (h : l.Pairwise (fun a b => kP a < kP b)) {a b : P3} (ha : a ∈ l) (hb : b ∈ l) (e : kP a = kP b) : a = b := by
  induction l with
  | nil => simp at ha
  | cons x r ih =>
    obtain ⟨h1, h2⟩ := List.pairwise_cons.1 h
    rcases List.mem_cons.1 ha with ha | ha
    · rcases List.mem_cons.1 hb with hb | hb
      · rw [ha, hb]
      · have := h1 b hb; rw [← ha] at this; omega
    · rcases List.mem_cons.1 hb with hb | hb
      · have := h1 a ha; rw [← hb] at this; omega
      · exact ih h2 ha hb
theorem fnd_some {n q : Int} {p : P3} (h0 : 0 ≤ n) (h1 : n ≤ 127) (h : fndL q (enh n (alts 5)) = some p) : mnL q (enh n (alts 5)) = p ∧ OkQ p ∧ hP p = n ∧ kP p = q := by
  obtain ⟨a, b⟩ := enh_gd h0 h1
  have hm := List.mem_of_find?_eq_some h
  have hq : 7 * p.2.2 + p.1 = q := by
    have h' : (enh n (alts 5)).find? (atQ q) = some p := h
    have h2 : atQ q p = true := List.find?_some h'
    exact of_decide_eq_true h2
  have hk := kP_ok (a p hm).1
  have hle := mnL_le (q := q) hm
  have hmm := mnL_mem (q := q) (l := enh n (alts 5)) (fun e => by rw [e] at hm; simp at hm)
  have hmo := a _ hmm
  rw [dP_ok (a p hm).1, dP_ok hmo.1] at hle
  have hmk := kP_ok hmo.1
  refine ⟨pw_inj b hmm hm ?_, (a p hm).1, (a p hm).2, by omega⟩
  unfold rdst at hle
  rw [hmk, hk]
  split at hle <;> split at hle <;> omega
theorem fnd_none {n q : Int} (h0 : 0 ≤ n) (h1 : n ≤ 127) (h : fndL q (enh n (alts 5)) = none) : OkQ (mnL q (enh n (alts 5))) ∧ hP (mnL q (enh n (alts 5))) = n ∧ kP (mnL q (enh n (alts 5))) ≠ q := by
  obtain ⟨a, b⟩ := enh_gd h0 h1
  have hm := mnL_mem (q := q) (enh_ne h0 h1)
  refine ⟨(a _ hm).1, (a _ hm).2, fun e => ?_⟩
  have := List.find?_eq_none.1 h _ hm
  rw [kP_ok (a _ hm).1] at e
  exact this (decide_eq_true e)
/-- what Transpose answers, and what Exact answers -/
def trE (s a o x y : Int) : Int := if Ok s a o then if Iv x y then if 0 ≤ ht s a o + y ∧ ht s a o + y ≤ 127 then 0 else 18 else 2 else 18
def trR (s a o x y : Int) : P3 := if trE s a o x y = 0 then trP s a o x y else (0, 0, 0)
def exO (s a o x y : Int) : Option P3 := fndL (k2 s a o + x) (enh (ht s a o + y) (alts 5))
def exE (s a o x y : Int) : Int := if trE s a o x y = 0 then (if (exO s a o x y).isSome then 0 else 18) else trE s a o x y
def exR (s a o x y : Int) : P3 := if exE s a o x y = 0 then trP s a o x y else (0, 0, 0)
theorem trE_ok {s a o x y : Int} (h : trE s a o x y = 0) : Ok s a o ∧ Iv x y ∧ 0 ≤ ht s a o + y ∧ ht s a o + y ≤ 127 := by
  unfold trE at h
  split at h
  · split at h
    · split at h
      · rename_i h1 h2 h3; exact ⟨h1, h2, h3⟩
      · exact absurd h (by decide)
    · exact absurd h (by decide)
  · exact absurd h (by decide)
theorem trE_of {s a o x y : Int} (h : Ok s a o) (hi : Iv x y) (h0 : 0 ≤ ht s a o + y) (h1 : ht s a o + y ≤ 127) : trE s a o x y = 0 := by
  unfold trE; rw [if_pos h, if_pos hi, if_pos ⟨h0, h1⟩]
theorem trP_ok {s a o x y : Int} (h : trE s a o x y = 0) : OkQ (trP s a o x y) ∧ hP (trP s a o x y) = ht s a o + y := by
  obtain ⟨_, _, h0, h1⟩ := trE_ok h
  have := (enh_gd h0 h1).1 _ (mnL_mem (q := k2 s a o + x) (enh_ne h0 h1))
  exact this
theorem exE_iff {s a o x y : Int} (h : trE s a o x y = 0) : exE s a o x y = 0 ↔ kP (trP s a o x y) = k2 s a o + x := by
  obtain ⟨_, _, h0, h1⟩ := trE_ok h
  unfold exE exO
  rw [if_pos h]
  cases hf : fndL (k2 s a o + x) (enh (ht s a o + y) (alts 5)) with
  | none =>
    have := (fnd_none h0 h1 hf).2.2
    simp only [Option.isSome_none, Bool.false_eq_true, if_false]
    exact ⟨fun e => absurd e (by decide), fun e => absurd e this⟩
  | some p =>
    have := fnd_some h0 h1 hf
    simp only [Option.isSome_some, if_true]
    refine ⟨fun _ => ?_, fun _ => by simp⟩
    show kP (mnL _ _) = _
    rw [this.1]; exact this.2.2.2
theorem exE_cases (s a o x y : Int) : exE s a o x y = 0 ∨ exE s a o x y = 2 ∨ exE s a o x y = 18 := by
  unfold exE trE
  repeat' split
  all_goals simp
theorem exE_tr {s a o x y : Int} (h : exE s a o x y = 0) : trE s a o x y = 0 := by
  unfold exE at h
  by_cases c : trE s a o x y = 0
  · exact c
  · rw [if_neg c] at h; exact h
end Go.Proofs.YtkooggakngheoaaDoor
