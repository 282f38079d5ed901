import Derived.Test.YtkooggakngheoaaDoorIv3
/-! Intervals: upward, the families, the plain intervals, the qualities. -/
namespace Go.Proofs.YtkooggakngheoaaDoor
open Go.RowKit
attribute [local go_sem] World.cell?_alloc_some

/-- descending -/
def dn (s t : Int) : Prop := s < 0 ∨ s = 0 ∧ t < 0
instance (s t : Int) : Decidable (dn s t) := by unfold dn; infer_instance
def us (s t : Int) : Int := if dn s t then -s else s
def ut (s t : Int) : Int := if dn s t then -t else t
theorem up_bd {s t : Int} (h : Iv s t) : (0 ≤ us s t ∧ us s t ≤ 77) ∧ -140 ≤ ut s t ∧ ut s t ≤ 140 := by
  obtain ⟨⟨_, _⟩, _, _⟩ := h
  unfold us ut
  by_cases c : dn s t
  · rw [if_pos c, if_pos c]; unfold dn at c; omega
  · rw [if_neg c, if_neg c]; unfold dn at c; omega

set_option maxHeartbeats 1600000 in
theorem upward_any (s t : Int) (w : World) (h : Iv s t) :
    Calls Tryd.prog 52 #[.agg #[.int .i64 s, .int .i64 t]] w fun e w' => e = .returned (.tuple #[.agg #[.int .i64 (us s t), .int .i64 (ut s t)], .bool (decide (dn s t))]) ∧ G w w' := by
  obtain ⟨⟨s0, s1⟩, t0, t1⟩ := h
  have c1 := IntWalk.i64_in (-s) (by omega)
  have c2 := IntWalk.i64_in (-t) (by omega)
  unfold us ut
  by_cases hs : s < 0
  · have hd : dn s t := .inl hs
    rw [if_pos hd, if_pos hd, decide_eq_true hd]
    clear hd
    go_enter Tryd.func52, Tryd.ntmps52
    go_wp2_with fail
    refine (opposite_any s t (-s) (-t) _ c1 c2).mono ?_
    rintro e w1 ⟨rfl, hG⟩
    obtain ⟨⟨y0, y1⟩, ⟨z0, z1⟩, f0, f1⟩ := duo2_later hG
    go_wp2_with fail
    refine bodyPost_ret (v := .tuple #[.agg #[.int .i64 (-s), .int .i64 (-t)], .bool true]) (by simp [results, Tryd.results52, go_sem, z0, z1]) rfl ⟨rfl, ?_⟩
    (repeat' (first | (with_reducible exact G.refl _) | (with_reducible assumption) | (with_reducible refine G.drewN ?_ _) | (with_reducible refine G.drew ?_) | (with_reducible refine G.alloc ?_ _) | (with_reducible refine G.setCell ?_ (by first | (with_reducible exact Nat.le_refl _) | (simp; done) | (simp; omega) | omega) _) | (with_reducible refine G.trans ?_ (by assumption))))
  by_cases h0 : s = 0
  · subst h0
    by_cases ht : t < 0
    · have hd : dn 0 t := .inr ⟨rfl, ht⟩
      rw [if_pos hd, if_pos hd, decide_eq_true hd]
      clear hd
      go_enter Tryd.func52, Tryd.ntmps52
      go_wp2_with fail
      refine (opposite_any 0 t 0 (-t) _ (by decide) c2).mono ?_
      rintro e w1 ⟨rfl, hG⟩
      obtain ⟨⟨y0, y1⟩, ⟨z0, z1⟩, f0, f1⟩ := duo2_later hG
      go_wp2_with fail
      refine bodyPost_ret (v := .tuple #[.agg #[.int .i64 0, .int .i64 (-t)], .bool true]) (by simp [results, Tryd.results52, go_sem, z0, z1]) rfl ⟨rfl, ?_⟩
      (repeat' (first | (with_reducible exact G.refl _) | (with_reducible assumption) | (with_reducible refine G.drewN ?_ _) | (with_reducible refine G.drew ?_) | (with_reducible refine G.alloc ?_ _) | (with_reducible refine G.setCell ?_ (by first | (with_reducible exact Nat.le_refl _) | (simp; done) | (simp; omega) | omega) _) | (with_reducible refine G.trans ?_ (by assumption))))
    · have hd : ¬ dn 0 t := fun k => k.elim (fun z => by omega) (fun z => ht z.2)
      rw [if_neg hd, if_neg hd, decide_eq_false hd]
      clear hd
      go_enter Tryd.func52, Tryd.ntmps52
      go_wp2_with fail
      refine bodyPost_ret (v := .tuple #[.agg #[.int .i64 0, .int .i64 t], .bool false]) (by simp [results, Tryd.results52, go_sem]) rfl ⟨rfl, ?_⟩
      (repeat' (first | (with_reducible exact G.refl _) | (with_reducible assumption) | (with_reducible refine G.drewN ?_ _) | (with_reducible refine G.drew ?_) | (with_reducible refine G.alloc ?_ _) | (with_reducible refine G.setCell ?_ (by first | (with_reducible exact Nat.le_refl _) | (simp; done) | (simp; omega) | omega) _) | (with_reducible refine G.trans ?_ (by assumption))))
  · have hd : ¬ dn s t := fun k => k.elim hs (fun z => h0 z.1)
    rw [if_neg hd, if_neg hd, decide_eq_false hd]
    clear hd
    have hb : (s == 0) = false := beq_false_of_ne h0
    go_enter Tryd.func52, Tryd.ntmps52
    go_wp2_with fail
    refine bodyPost_ret (v := .tuple #[.agg #[.int .i64 s, .int .i64 t], .bool false]) (by simp [results, Tryd.results52, go_sem]) rfl ⟨rfl, ?_⟩
    (repeat' (first | (with_reducible exact G.refl _) | (with_reducible assumption) | (with_reducible refine G.drewN ?_ _) | (with_reducible refine G.drew ?_) | (with_reducible refine G.alloc ?_ _) | (with_reducible refine G.setCell ?_ (by first | (with_reducible exact Nat.le_refl _) | (simp; done) | (simp; omega) | omega) _) | (with_reducible refine G.trans ?_ (by assumption))))

/-- the program's table of families -/
def Fam (w : World) : Prop := w.cell? ⟨0, 0, none⟩ = some (.int .i64 0) ∧ w.cell? ⟨0, 1, none⟩ = some (.int .i64 1) ∧ w.cell? ⟨0, 2, none⟩ = some (.int .i64 1) ∧ w.cell? ⟨0, 3, none⟩ = some (.int .i64 0) ∧ w.cell? ⟨0, 4, none⟩ = some (.int .i64 0) ∧ w.cell? ⟨0, 5, none⟩ = some (.int .i64 1) ∧ w.cell? ⟨0, 6, none⟩ = some (.int .i64 1)
theorem Fam.later {a b : World} (h : Fam a) (g : G a b) : Fam b := by
  obtain ⟨x0, x1, x2, x3, x4, x5, x6⟩ := h
  exact ⟨g.at x0, g.at x1, g.at x2, g.at x3, g.at x4, g.at x5, g.at x6⟩
def fm (s : Int) : Int := if s % 7 = 0 ∨ s % 7 = 3 ∨ s % 7 = 4 then 0 else 1
theorem fam_cell {s : Int} {w : World} (hT : Fam w) : w.cell? ⟨0, (s % 7).toNat, none⟩ = some (.int .i64 (fm s)) := by
  obtain ⟨x0, x1, x2, x3, x4, x5, x6⟩ := hT
  unfold fm
  obtain ⟨r, hr⟩ : ∃ z : Int, z = s % 7 := ⟨_, rfl⟩
  have hr0 : 0 ≤ r ∧ r ≤ 6 := by omega
  rw [← hr]
  clear hr
  rcases steps7 hr0.1 hr0.2 with rfl | rfl | rfl | rfl | rfl | rfl | rfl <;> simp <;> assumption
set_option maxHeartbeats 1600000 in
theorem family_any (s : Int) (w : World) (h0 : 0 ≤ s) (_ : s ≤ 77) (hT : Fam w) :
    Calls Tryd.prog 55 #[.int .i64 s] w fun e w' => e = .returned (.int .i64 (fm s)) ∧ G w w' := by
  have hc := fam_cell (s := s) hT
  clear hT
  go_enter Tryd.func55, Tryd.ntmps55
  go_wp2_with fail
  go_ret
  exact ⟨rfl, by (repeat' (first | (with_reducible exact G.refl _) | (with_reducible assumption) | (with_reducible refine G.drewN ?_ _) | (with_reducible refine G.drew ?_) | (with_reducible refine G.alloc ?_ _) | (with_reducible refine G.setCell ?_ (by first | (with_reducible exact Nat.le_refl _) | (simp; done) | (simp; omega) | omega) _) | (with_reducible refine G.trans ?_ (by assumption))))⟩

/-- the semitones of the major or perfect interval with some steps -/
def pln (s : Int) : Int := s / 7 * 12 + H (s % 7)
theorem pln_bd {s : Int} (h0 : 0 ≤ s) (h1 : s ≤ 77) : 0 ≤ pln s ∧ pln s ≤ 143 := by
  have := H_bd (s % 7)
  unfold pln; omega
set_option maxHeartbeats 1600000 in
theorem plain_any (s : Int) (w : World) (h0 : 0 ≤ s) (h1 : s ≤ 77) (hT : Hts w) :
    Calls Tryd.prog 56 #[.int .i64 s] w fun e w' => e = .returned (.int .i64 (pln s)) ∧ G w w' := by
  have HT := Lib.hid hT
  have hb := H_bd (s % 7)
  have hO : Ok (s % 7) 0 (-1) := ⟨⟨⟨by omega, by omega⟩, ⟨by omega, by omega⟩, by omega, by omega⟩, by unfold ht; omega, by unfold ht; omega⟩
  have HO := Lib.hid (show (if Ok (s % 7) 0 (-1) then ht (s % 7) 0 (-1) else 0) = H (s % 7) by rw [if_pos hO]; unfold ht; omega)
  have HE := Lib.hid (er_ok hO)
  obtain ⟨x, hx⟩ : ∃ z : Int, Hid (z = H (s % 7)) := ⟨_, rfl⟩
  obtain ⟨R, hR⟩ : ∃ z : Int, Hid (z = pln s) := ⟨_, rfl⟩
  have HR := Lib.hid (show R = s / 7 * 12 + x by rw [hR.out, hx.out]; rfl)
  rw [← hx.out] at hb
  rw [← hR.out]
  have q1 := IntWalk.i64_in (s / 7 * 12) (by omega)
  have q2 := IntWalk.i64_in (s / 7 * 12 + x) (by omega)
  clear hT hO
  go_enter Tryd.func56, Tryd.ntmps56
  go_wp2_with fail
  refine (Number_any (s % 7) 0 (-1) _ (HT.out.later (by (repeat' (first | (with_reducible exact G.refl _) | (with_reducible assumption) | (with_reducible refine G.drewN ?_ _) | (with_reducible refine G.drew ?_) | (with_reducible refine G.alloc ?_ _) | (with_reducible refine G.setCell ?_ (by first | (with_reducible exact Nat.le_refl _) | (simp; done) | (simp; omega) | omega) _) | (with_reducible refine G.trans ?_ (by assumption))))))).mono ?_
  rintro e w1 ⟨rfl, hG⟩
  rw [HO.out, HE.out, ← hx.out]
  go_wp2_with fail
  go_ret
  exact ⟨ret_int (by rw [HR.out]), by (repeat' (first | (with_reducible exact G.refl _) | (with_reducible assumption) | (with_reducible refine G.drewN ?_ _) | (with_reducible refine G.drew ?_) | (with_reducible refine G.alloc ?_ _) | (with_reducible refine G.setCell ?_ (by first | (with_reducible exact Nat.le_refl _) | (simp; done) | (simp; omega) | omega) _) | (with_reducible refine G.trans ?_ (by assumption))))⟩

set_option maxHeartbeats 1600000 in
theorem ofPerfect_any (d : Int) (w : World) (h0 : -400 ≤ d) (h1 : d ≤ 400) :
    Calls Tryd.prog 53 #[.int .i64 d] w fun e w' => e = .returned (.tuple #[.int .i64 (if 0 < d then 2 else if d < 0 then -2 else 0), .int .i64 (if 0 < d then d else if d < 0 then -d else 0)]) ∧ G w w' := by
  by_cases c : 0 < d
  · rw [if_pos c, if_pos c]
    go_enter Tryd.func53, Tryd.ntmps53
    go_wp2_with fail
    go_returns
    exact ⟨rfl, by (repeat' (first | (with_reducible exact G.refl _) | (with_reducible assumption) | (with_reducible refine G.drewN ?_ _) | (with_reducible refine G.drew ?_) | (with_reducible refine G.alloc ?_ _) | (with_reducible refine G.setCell ?_ (by first | (with_reducible exact Nat.le_refl _) | (simp; done) | (simp; omega) | omega) _) | (with_reducible refine G.trans ?_ (by assumption))))⟩
  by_cases c2 : d < 0
  · rw [if_neg c, if_neg c, if_pos c2, if_pos c2]
    have q := IntWalk.i64_in (-d) (by omega)
    go_enter Tryd.func53, Tryd.ntmps53
    go_wp2_with fail
    go_returns
    exact ⟨rfl, by (repeat' (first | (with_reducible exact G.refl _) | (with_reducible assumption) | (with_reducible refine G.drewN ?_ _) | (with_reducible refine G.drew ?_) | (with_reducible refine G.alloc ?_ _) | (with_reducible refine G.setCell ?_ (by first | (with_reducible exact Nat.le_refl _) | (simp; done) | (simp; omega) | omega) _) | (with_reducible refine G.trans ?_ (by assumption))))⟩
  · rw [if_neg c, if_neg c, if_neg c2, if_neg c2]
    go_enter Tryd.func53, Tryd.ntmps53
    go_wp2_with fail
    go_returns
    exact ⟨rfl, by (repeat' (first | (with_reducible exact G.refl _) | (with_reducible assumption) | (with_reducible refine G.drewN ?_ _) | (with_reducible refine G.drew ?_) | (with_reducible refine G.alloc ?_ _) | (with_reducible refine G.setCell ?_ (by first | (with_reducible exact Nat.le_refl _) | (simp; done) | (simp; omega) | omega) _) | (with_reducible refine G.trans ?_ (by assumption))))⟩

set_option maxHeartbeats 1600000 in
theorem ofMajor_any (d : Int) (w : World) (h0 : -400 ≤ d) (h1 : d ≤ 400) :
    Calls Tryd.prog 54 #[.int .i64 d] w fun e w' => e = .returned (.tuple #[.int .i64 (if 0 < d then 2 else if d = 0 then 1 else if d = -1 then -1 else -2), .int .i64 (if 0 < d then d else if d = 0 then 0 else if d = -1 then 0 else -1 - d)]) ∧ G w w' := by
  by_cases c : 0 < d
  · rw [if_pos c, if_pos c]
    go_enter Tryd.func54, Tryd.ntmps54
    go_wp2_with fail
    go_returns
    exact ⟨rfl, by (repeat' (first | (with_reducible exact G.refl _) | (with_reducible assumption) | (with_reducible refine G.drewN ?_ _) | (with_reducible refine G.drew ?_) | (with_reducible refine G.alloc ?_ _) | (with_reducible refine G.setCell ?_ (by first | (with_reducible exact Nat.le_refl _) | (simp; done) | (simp; omega) | omega) _) | (with_reducible refine G.trans ?_ (by assumption))))⟩
  by_cases c2 : d = 0
  · subst c2
    go_enter Tryd.func54, Tryd.ntmps54
    go_wp2_with fail
    go_returns
    exact ⟨rfl, by (repeat' (first | (with_reducible exact G.refl _) | (with_reducible assumption) | (with_reducible refine G.drewN ?_ _) | (with_reducible refine G.drew ?_) | (with_reducible refine G.alloc ?_ _) | (with_reducible refine G.setCell ?_ (by first | (with_reducible exact Nat.le_refl _) | (simp; done) | (simp; omega) | omega) _) | (with_reducible refine G.trans ?_ (by assumption))))⟩
  by_cases c3 : d = -1
  · subst c3
    go_enter Tryd.func54, Tryd.ntmps54
    go_wp2_with fail
    go_returns
    exact ⟨rfl, by (repeat' (first | (with_reducible exact G.refl _) | (with_reducible assumption) | (with_reducible refine G.drewN ?_ _) | (with_reducible refine G.drew ?_) | (with_reducible refine G.alloc ?_ _) | (with_reducible refine G.setCell ?_ (by first | (with_reducible exact Nat.le_refl _) | (simp; done) | (simp; omega) | omega) _) | (with_reducible refine G.trans ?_ (by assumption))))⟩
  · rw [if_neg c, if_neg c, if_neg c2, if_neg c2, if_neg c3, if_neg c3]
    have q := IntWalk.i64_in (-1 - d) (by omega)
    have b1 : (d == 0) = false := beq_false_of_ne c2
    have b2 : (d == -1) = false := beq_false_of_ne c3
    clear c2 c3
    go_enter Tryd.func54, Tryd.ntmps54
    go_wp2_with fail
    go_returns
    exact ⟨rfl, by (repeat' (first | (with_reducible exact G.refl _) | (with_reducible assumption) | (with_reducible refine G.drewN ?_ _) | (with_reducible refine G.drew ?_) | (with_reducible refine G.alloc ?_ _) | (with_reducible refine G.setCell ?_ (by first | (with_reducible exact Nat.le_refl _) | (simp; done) | (simp; omega) | omega) _) | (with_reducible refine G.trans ?_ (by assumption))))⟩
end Go.Proofs.YtkooggakngheoaaDoor
