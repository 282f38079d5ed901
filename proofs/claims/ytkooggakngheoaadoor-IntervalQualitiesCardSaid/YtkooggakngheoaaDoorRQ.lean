import Derived.Test.YtkooggakngheoaaDoorRAll
import Derived.Test.YtkooggakngheoaaDoorIv6
/-! The reference's Down, Up, Quality, Simple; the program's Simple. -/
namespace Go.Proofs.YtkooggakngheoaaDoor
open Go.RowKit
attribute [local go_sem] World.cell?_alloc_some

set_option maxHeartbeats 1600000 in
theorem rDown_any (s t : Int) (w : World) :
    Calls Tryd.prog 58 #[.agg #[.int .i64 s, .int .i64 t]] w fun e w' => e = .returned (.bool (decide (dn s t))) ∧ G w w' := by
  by_cases c : s < 0
  · rw [decide_eq_true (show dn s t from .inl c)]
    go_enter Tryd.func58, Tryd.ntmps58
    go_wp2_with fail
    go_ret
    exact ⟨rfl, by (repeat' (first | (with_reducible exact G.refl _) | (with_reducible assumption) | (with_reducible refine G.drewN ?_ _) | (with_reducible refine G.drew ?_) | (with_reducible refine G.alloc ?_ _) | (with_reducible refine G.setCell ?_ (by first | (with_reducible exact Nat.le_refl _) | (simp; done) | (simp; omega) | omega) _) | (with_reducible refine G.trans ?_ (by assumption))))⟩
  · by_cases h0 : s = 0
    · subst h0
      have e : decide (dn 0 t) = decide (t < 0) := by unfold dn; simp
      rw [e]
      clear e
      go_enter Tryd.func58, Tryd.ntmps58
      go_wp2_with fail
      go_ret
      exact ⟨rfl, by (repeat' (first | (with_reducible exact G.refl _) | (with_reducible assumption) | (with_reducible refine G.drewN ?_ _) | (with_reducible refine G.drew ?_) | (with_reducible refine G.alloc ?_ _) | (with_reducible refine G.setCell ?_ (by first | (with_reducible exact Nat.le_refl _) | (simp; done) | (simp; omega) | omega) _) | (with_reducible refine G.trans ?_ (by assumption))))⟩
    · have hd : ¬ dn s t := fun k => k.elim c (fun z => h0 z.1)
      have hb : (s == 0) = false := beq_false_of_ne h0
      rw [decide_eq_false hd]
      clear hd h0
      go_enter Tryd.func58, Tryd.ntmps58
      go_wp2_with fail
      go_ret
      exact ⟨rfl, by (repeat' (first | (with_reducible exact G.refl _) | (with_reducible assumption) | (with_reducible refine G.drewN ?_ _) | (with_reducible refine G.drew ?_) | (with_reducible refine G.alloc ?_ _) | (with_reducible refine G.setCell ?_ (by first | (with_reducible exact Nat.le_refl _) | (simp; done) | (simp; omega) | omega) _) | (with_reducible refine G.trans ?_ (by assumption))))⟩

set_option maxHeartbeats 1600000 in
theorem rUp_any (s t : Int) (w : World) (h : Iv s t) :
    Calls Tryd.prog 57 #[.agg #[.int .i64 s, .int .i64 t]] w fun e w' => e = .returned (.agg #[.int .i64 (us s t), .int .i64 (ut s t)]) ∧ G w w' := by
  obtain ⟨⟨s0, s1⟩, t0, t1⟩ := h
  have c1 := IntWalk.i64_in (-s) (by omega)
  have c2 := IntWalk.i64_in (-t) (by omega)
  unfold us ut
  by_cases hd : dn s t
  · rw [if_pos hd, if_pos hd]
    have HD := Lib.hid (decide_eq_true hd)
    clear hd
    go_enter Tryd.func57, Tryd.ntmps57
    go_wp2_with fail
    refine (rDown_any s t _).mono ?_
    rintro e w1 ⟨rfl, hG⟩
    rw [HD.out]
    obtain ⟨⟨y0, y1⟩, ⟨z0, z1⟩, f0, f1⟩ := duo2_later hG
    go_wp2_with fail
    refine bodyPost_ret (v := .agg #[.int .i64 (-s), .int .i64 (-t)]) (by simp [results, Tryd.results57, go_sem, z0, z1]) rfl ⟨rfl, ?_⟩
    (repeat' (first | (with_reducible exact G.refl _) | (with_reducible assumption) | (with_reducible refine G.drewN ?_ _) | (with_reducible refine G.drew ?_) | (with_reducible refine G.alloc ?_ _) | (with_reducible refine G.setCell ?_ (by first | (with_reducible exact Nat.le_refl _) | (simp; done) | (simp; omega) | omega) _) | (with_reducible refine G.trans ?_ (by assumption))))
  · rw [if_neg hd, if_neg hd]
    have HD := Lib.hid (decide_eq_false hd)
    clear hd
    go_enter Tryd.func57, Tryd.ntmps57
    go_wp2_with fail
    refine (rDown_any s t _).mono ?_
    rintro e w1 ⟨rfl, hG⟩
    rw [HD.out]
    obtain ⟨⟨y0, y1⟩, ⟨z0, z1⟩, f0, f1⟩ := duo2_later hG
    go_wp2_with fail
    refine bodyPost_ret (v := .agg #[.int .i64 s, .int .i64 t]) (by simp [results, Tryd.results57, go_sem, z0, z1]) rfl ⟨rfl, ?_⟩
    (repeat' (first | (with_reducible exact G.refl _) | (with_reducible assumption) | (with_reducible refine G.drewN ?_ _) | (with_reducible refine G.drew ?_) | (with_reducible refine G.alloc ?_ _) | (with_reducible refine G.setCell ?_ (by first | (with_reducible exact Nat.le_refl _) | (simp; done) | (simp; omega) | omega) _) | (with_reducible refine G.trans ?_ (by assumption))))

theorem fm_zero {u : Int} : fm u = 0 ↔ (u % 7 = 0 ∨ u % 7 = 3 ∨ u % 7 = 4) := by
  unfold fm; split
  · rename_i h; exact ⟨fun _ => h, fun _ => rfl⟩
  · rename_i h; exact ⟨fun e => absurd e (by decide), fun e => absurd e h⟩

set_option maxRecDepth 20000 in
set_option maxHeartbeats 3200000 in
theorem rQuality_any (s t : Int) (w : World) (h : Iv s t) :
    Calls Tryd.prog 33 #[.agg #[.int .i64 s, .int .i64 t]] w fun e w' => e = .returned (.tuple #[.int .i64 (qQ s t), .int .i64 (qT s t)]) ∧ G w w' := by
  have HI := Lib.hid h
  obtain ⟨⟨u0, u1⟩, v0, v1⟩ := up_bd h
  obtain ⟨R, hR⟩ : ∃ z : Value, Hid (z = .tuple #[.int .i64 (qQ s t), .int .i64 (qT s t)]) := ⟨_, rfl⟩
  rw [← hR.out]
  obtain ⟨u, hu⟩ : ∃ z : Int, Hid (z = us s t) := ⟨_, rfl⟩
  obtain ⟨v, hv⟩ : ∃ z : Int, Hid (z = ut s t) := ⟨_, rfl⟩
  obtain ⟨b, hb⟩ : ∃ z : Int, Hid (z = H (u % 7)) := ⟨_, rfl⟩
  obtain ⟨d, hd⟩ : ∃ z : Int, Hid (z = v - 12 * (u / 7) - b) := ⟨_, rfl⟩
  obtain ⟨k, hk⟩ : ∃ z : Int, Hid (z = u % 7) := ⟨_, rfl⟩
  have hbb := H_bd (u % 7)
  rw [← hb.out] at hbb
  rw [← hu.out] at u0 u1
  rw [← hv.out] at v0 v1
  have hdv : dv s t = d := by
    unfold dv pln
    rw [← hu.out, ← hv.out, ← hb.out, hd.out]; omega
  have kb : 0 ≤ k ∧ k ≤ 6 := by rw [hk.out]; omega
  have HQ := Lib.hid (show R = .tuple #[.int .i64 (if k = 0 ∨ k = 3 ∨ k = 4 then (if 0 < d then 2 else if d < 0 then -2 else 0) else (if 0 < d then 2 else if d = 0 then 1 else if d = -1 then -1 else -2)), .int .i64 (if k = 0 ∨ k = 3 ∨ k = 4 then (if 0 < d then d else if d < 0 then -d else 0) else (if 0 < d then d else if d = 0 then 0 else if d = -1 then 0 else -1 - d))] by
    rw [hR.out]
    unfold qQ qT
    rw [hdv, ← hu.out, hk.out]
    by_cases c : u % 7 = 0 ∨ u % 7 = 3 ∨ u % 7 = 4
    · rw [if_pos (fm_zero.2 c), if_pos (fm_zero.2 c), if_pos c, if_pos c]
    · rw [if_neg (fun e => c (fm_zero.1 e)), if_neg (fun e => c (fm_zero.1 e)), if_neg c, if_neg c])
  have db : -400 ≤ d ∧ d ≤ 400 := by rw [hd.out]; omega
  have q1 := IntWalk.i64_in (12 * (u / 7)) (by omega)
  have q2 := IntWalk.i64_in (v - 12 * (u / 7)) (by omega)
  have q3 : IntKind.i64.wrap (v - 12 * (u / 7) - b) = d := by rw [← hd.out]; exact IntWalk.i64_in d (by omega)
  have q4 : u.tmod 7 = k := by rw [hk.out]; exact Int.tmod_eq_emod_of_nonneg u0
  have q5 : u.tdiv 7 = u / 7 := Int.tdiv_eq_ediv_of_nonneg u0
  have q6 := IntWalk.i64_in (u / 7) (by omega)
  have HK := Lib.hid hk.out
  have HB := Lib.hid (show 0 ≤ k ∧ k ≤ 6 from kb)
  clear hdv
  go_enter Tryd.func33, Tryd.ntmps33
  go_wp2_with fail
  refine (rUp_any s t _ HI.out).mono ?_
  rintro e w1 ⟨rfl, hG⟩
  rw [← hu.out, ← hv.out]
  go_wp2_with fail
  have gb := G.refl (w1.alloc (.cells #[.int .i64 u, .int .i64 v] 23))
  have gw : G w (w1.alloc (.cells #[.int .i64 u, .int .i64 v] 23)) := by (repeat' (first | (with_reducible exact G.refl _) | (with_reducible assumption) | (with_reducible refine G.drewN ?_ _) | (with_reducible refine G.drew ?_) | (with_reducible refine G.alloc ?_ _) | (with_reducible refine G.setCell ?_ (by first | (with_reducible exact Nat.le_refl _) | (simp; done) | (simp; omega) | omega) _) | (with_reducible refine G.trans ?_ (by assumption))))
  go_region_held3 (fun w' => w'.cell? ⟨w1.heap.size, 0, none⟩ = some (.int .i64 u) ∧ w'.cell? ⟨w1.heap.size, 1, none⟩ = some (.int .i64 v))
    (first | (with_reducible assumption) | ((try dsimp only); (repeat' (with_reducible apply And.intro)) <;> go_simp))
    (first | (go_at_call 50; refine (rBase_any k _ HB.out.1 HB.out.2).mono ?_; rintro e w9 ⟨rfl, hG9⟩; rw [HK.out, ← hb.out]; have gq := gb.trans (G.trans (by (repeat' (first | (with_reducible exact G.refl _) | (with_reducible refine G.drewN ?_ _) | (with_reducible refine G.drew ?_) | (with_reducible refine G.alloc ?_ _)))) hG9); clear gb; have gb := gq; obtain ⟨z0, z1⟩ := duo_later gb))
  all_goals
    have ek : u % 7 = k := HK.out.symm
    have hgf : G w w9 := gw.trans gb
    obtain ⟨kb0, kb1⟩ := HB.out
    clear q1 q2 q3 q4 q5 q6 hbb v0 v1 kb HK HB
    rcases steps7 kb0 kb1 with rfl | rfl | rfl | rfl | rfl | rfl | rfl
    case inl | inr.inr.inr.inl | inr.inr.inr.inr.inl =>
      clear kb0 kb1
      by_cases c1 : 0 < d
      · have HQ2 := Lib.hid (show R = .tuple #[.int .i64 2, .int .i64 d] by rw [HQ.out]; simp [c1])
        go_wp2_with fail
        go_returns
        exact ⟨by rw [HQ2.out]; rfl, by (repeat' (first | (with_reducible exact G.refl _) | (with_reducible assumption) | (with_reducible refine G.drewN ?_ _) | (with_reducible refine G.drew ?_) | (with_reducible refine G.alloc ?_ _) | (with_reducible refine G.setCell ?_ (by first | (with_reducible exact Nat.le_refl _) | (simp; done) | (simp; omega) | omega) _) | (with_reducible refine G.trans ?_ (by assumption))))⟩
      by_cases c2 : d = 0
      · subst c2
        have HQ2 := Lib.hid (show R = .tuple #[.int .i64 0, .int .i64 0] by rw [HQ.out]; rfl)
        go_wp2_with fail
        go_returns
        exact ⟨by rw [HQ2.out]; rfl, by (repeat' (first | (with_reducible exact G.refl _) | (with_reducible assumption) | (with_reducible refine G.drewN ?_ _) | (with_reducible refine G.drew ?_) | (with_reducible refine G.alloc ?_ _) | (with_reducible refine G.setCell ?_ (by first | (with_reducible exact Nat.le_refl _) | (simp; done) | (simp; omega) | omega) _) | (with_reducible refine G.trans ?_ (by assumption))))⟩
      · have c3 : d < 0 := by omega
        have HQ2 := Lib.hid (show R = .tuple #[.int .i64 (-2), .int .i64 (-d)] by rw [HQ.out]; simp [c1, c3])
        have c4 : (d == 0) = false := beq_false_of_ne c2
        have q1 := IntWalk.i64_in (-d) (by omega)
        clear c2
        go_wp2_with fail
        go_returns
        exact ⟨by rw [HQ2.out]; rfl, by (repeat' (first | (with_reducible exact G.refl _) | (with_reducible assumption) | (with_reducible refine G.drewN ?_ _) | (with_reducible refine G.drew ?_) | (with_reducible refine G.alloc ?_ _) | (with_reducible refine G.setCell ?_ (by first | (with_reducible exact Nat.le_refl _) | (simp; done) | (simp; omega) | omega) _) | (with_reducible refine G.trans ?_ (by assumption))))⟩
    all_goals
      clear kb0 kb1
      by_cases c1 : 0 < d
      · have HQ2 := Lib.hid (show R = .tuple #[.int .i64 2, .int .i64 d] by rw [HQ.out]; simp [c1])
        go_wp2_with fail
        go_returns
        exact ⟨by rw [HQ2.out]; rfl, by (repeat' (first | (with_reducible exact G.refl _) | (with_reducible assumption) | (with_reducible refine G.drewN ?_ _) | (with_reducible refine G.drew ?_) | (with_reducible refine G.alloc ?_ _) | (with_reducible refine G.setCell ?_ (by first | (with_reducible exact Nat.le_refl _) | (simp; done) | (simp; omega) | omega) _) | (with_reducible refine G.trans ?_ (by assumption))))⟩
      by_cases c2 : d = 0
      · subst c2
        have HQ2 := Lib.hid (show R = .tuple #[.int .i64 1, .int .i64 0] by rw [HQ.out]; rfl)
        go_wp2_with fail
        go_returns
        exact ⟨by rw [HQ2.out]; rfl, by (repeat' (first | (with_reducible exact G.refl _) | (with_reducible assumption) | (with_reducible refine G.drewN ?_ _) | (with_reducible refine G.drew ?_) | (with_reducible refine G.alloc ?_ _) | (with_reducible refine G.setCell ?_ (by first | (with_reducible exact Nat.le_refl _) | (simp; done) | (simp; omega) | omega) _) | (with_reducible refine G.trans ?_ (by assumption))))⟩
      by_cases c3 : d = -1
      · subst c3
        have HQ2 := Lib.hid (show R = .tuple #[.int .i64 (-1), .int .i64 0] by rw [HQ.out]; rfl)
        go_wp2_with fail
        go_returns
        exact ⟨by rw [HQ2.out]; rfl, by (repeat' (first | (with_reducible exact G.refl _) | (with_reducible assumption) | (with_reducible refine G.drewN ?_ _) | (with_reducible refine G.drew ?_) | (with_reducible refine G.alloc ?_ _) | (with_reducible refine G.setCell ?_ (by first | (with_reducible exact Nat.le_refl _) | (simp; done) | (simp; omega) | omega) _) | (with_reducible refine G.trans ?_ (by assumption))))⟩
      · have HQ2 := Lib.hid (show R = .tuple #[.int .i64 (-2), .int .i64 (-1 - d)] by rw [HQ.out]; simp [c1, c2, c3])
        have c4 : (d == 0) = false := beq_false_of_ne c2
        have c5 : (d == -1) = false := beq_false_of_ne c3
        have q1 := IntWalk.i64_in (-1 - d) (by omega)
        clear c2 c3
        go_wp2_with fail
        go_returns
        exact ⟨by rw [HQ2.out]; rfl, by (repeat' (first | (with_reducible exact G.refl _) | (with_reducible assumption) | (with_reducible refine G.drewN ?_ _) | (with_reducible refine G.drew ?_) | (with_reducible refine G.alloc ?_ _) | (with_reducible refine G.setCell ?_ (by first | (with_reducible exact Nat.le_refl _) | (simp; done) | (simp; omega) | omega) _) | (with_reducible refine G.trans ?_ (by assumption))))⟩

/-- an interval that is smaller than an octave, and how many octaves -/
def smS (s t : Int) : Int := if dn s t then -(us s t % 7) else us s t % 7
def smT (s t : Int) : Int := if dn s t then -(ut s t - 12 * (us s t / 7)) else ut s t - 12 * (us s t / 7)
def smO (s t : Int) : Int := if dn s t then -(us s t / 7) else us s t / 7

set_option maxRecDepth 20000 in
set_option maxHeartbeats 3200000 in
theorem rSimple_any (s t : Int) (w : World) (h : Iv s t) :
    Calls Tryd.prog 34 #[.agg #[.int .i64 s, .int .i64 t]] w fun e w' => e = .returned (.tuple #[.agg #[.int .i64 (smS s t), .int .i64 (smT s t)], .int .i64 (smO s t)]) ∧ G w w' := by
  have HI := Lib.hid h
  obtain ⟨⟨u0, u1⟩, v0, v1⟩ := up_bd h
  obtain ⟨u, hu⟩ : ∃ z : Int, Hid (z = us s t) := ⟨_, rfl⟩
  obtain ⟨v, hv⟩ : ∃ z : Int, Hid (z = ut s t) := ⟨_, rfl⟩
  unfold smS smT smO
  rw [← hu.out, ← hv.out]
  rw [← hu.out] at u0 u1
  rw [← hv.out] at v0 v1
  have q0 : u - 7 * (u / 7) = u % 7 := by omega
  have q1 := IntWalk.i64_in (u / 7) (by omega)
  have q2 := IntWalk.i64_in (7 * (u / 7)) (by omega)
  have q3 := IntWalk.i64_in (12 * (u / 7)) (by omega)
  have q4 := IntWalk.i64_in (v - 12 * (u / 7)) (by omega)
  have q5 := IntWalk.i64_in (u % 7) (by omega)
  have q6 := IntWalk.i64_in (-(u % 7)) (by omega)
  have q7 := IntWalk.i64_in (-(v - 12 * (u / 7))) (by omega)
  have q8 := IntWalk.i64_in (-(u / 7)) (by omega)
  have gb := G.refl ((w.alloc (.cells #[.int .i64 s, .int .i64 t] 23)).alloc (.cells #[.int .i64 0, .int .i64 0] 23))
  have gw : G w ((w.alloc (.cells #[.int .i64 s, .int .i64 t] 23)).alloc (.cells #[.int .i64 0, .int .i64 0] 23)) := by (repeat' (first | (with_reducible exact G.refl _) | (with_reducible refine G.drewN ?_ _) | (with_reducible refine G.drew ?_) | (with_reducible refine G.alloc ?_ _)))
  by_cases hd : dn s t
  · rw [if_pos hd, if_pos hd, if_pos hd]
    have HD := Lib.hid (decide_eq_true hd)
    clear hd h
    go_enter Tryd.func34, Tryd.ntmps34
    go_wp2_with fail
    refine (rUp_any s t _ HI.out).mono ?_
    rintro e w1 ⟨rfl, hG⟩
    rw [← hu.out, ← hv.out]
    have gq := (gb.trans hG).alloc (.cells #[.int .i64 u, .int .i64 v] 23)
    obtain ⟨⟨y0, y1⟩, ⟨z0, z1⟩, f0, f1⟩ := duo2_later gq
    go_wp2_with fail
    refine (rDown_any s t _).mono ?_
    rintro e w2 ⟨rfl, hG2⟩
    rw [HD.out]
    have gq2 := (gq.alloc (.cells #[.int .i64 (u % 7), .int .i64 (v - 12 * (u / 7))] 23)).trans hG2
    clear y0 y1 z0 z1 f0 f1
    obtain ⟨⟨y0, y1⟩, ⟨z0, z1⟩, f0, f1⟩ := duo2_later gq2
    obtain ⟨⟨x0, x1⟩, ⟨x2, x3⟩, _, _⟩ := duo2_later hG2
    go_wp2_with fail
    refine bodyPost_ret (v := .tuple #[.agg #[.int .i64 (-(u % 7)), .int .i64 (-(v - 12 * (u / 7)))], .int .i64 (-(u / 7))]) (by simp [results, Tryd.results34, go_sem, z0, z1]) rfl ⟨rfl, ?_⟩
    have gfin := gw.trans gq2
    (repeat' (first | (with_reducible exact G.refl _) | (with_reducible assumption) | (with_reducible refine G.drewN ?_ _) | (with_reducible refine G.drew ?_) | (with_reducible refine G.alloc ?_ _) | (with_reducible refine G.setCell ?_ (by first | (with_reducible exact Nat.le_refl _) | (simp; done) | (simp; omega) | omega) _) | (with_reducible refine G.trans ?_ (by assumption))))
  · rw [if_neg hd, if_neg hd, if_neg hd]
    have HD := Lib.hid (decide_eq_false hd)
    clear hd h
    go_enter Tryd.func34, Tryd.ntmps34
    go_wp2_with fail
    refine (rUp_any s t _ HI.out).mono ?_
    rintro e w1 ⟨rfl, hG⟩
    rw [← hu.out, ← hv.out]
    have gq := (gb.trans hG).alloc (.cells #[.int .i64 u, .int .i64 v] 23)
    obtain ⟨⟨y0, y1⟩, ⟨z0, z1⟩, f0, f1⟩ := duo2_later gq
    go_wp2_with fail
    refine (rDown_any s t _).mono ?_
    rintro e w2 ⟨rfl, hG2⟩
    rw [HD.out]
    have gq2 := (gq.alloc (.cells #[.int .i64 (u % 7), .int .i64 (v - 12 * (u / 7))] 23)).trans hG2
    clear y0 y1 z0 z1 f0 f1
    obtain ⟨⟨y0, y1⟩, ⟨z0, z1⟩, f0, f1⟩ := duo2_later gq2
    obtain ⟨⟨x0, x1⟩, ⟨x2, x3⟩, _, _⟩ := duo2_later hG2
    go_wp2_with fail
    refine bodyPost_ret (v := .tuple #[.agg #[.int .i64 (u % 7), .int .i64 (v - 12 * (u / 7))], .int .i64 (u / 7)]) (by simp [results, Tryd.results34, go_sem, z0, z1]) rfl ⟨rfl, ?_⟩
    have gfin := gw.trans gq2
    (repeat' (first | (with_reducible exact G.refl _) | (with_reducible assumption) | (with_reducible refine G.drewN ?_ _) | (with_reducible refine G.drew ?_) | (with_reducible refine G.alloc ?_ _) | (with_reducible refine G.setCell ?_ (by first | (with_reducible exact Nat.le_refl _) | (simp; done) | (simp; omega) | omega) _) | (with_reducible refine G.trans ?_ (by assumption))))

/-- a box of two cells that may be stored into -/
def Bd (W : World) (b : Nat) (p q : Value) : Prop := (W.cell? ⟨b, 0, none⟩ = some p ∧ W.cell? ⟨b, 1, none⟩ = some q) ∧ W.frozen? ⟨b, 0, none⟩ = false ∧ W.frozen? ⟨b, 1, none⟩ = false
theorem Bd.set {W : World} {b : Nat} {p q : Value} (h : Bd W b p q) (u v : Value) : Bd ((W.setCell ⟨b, 0, none⟩ u).setCell ⟨b, 1, none⟩ v) b u v := by
  obtain ⟨⟨h0, h1⟩, f0, f1⟩ := h
  exact ⟨⟨by simp [go_sem, h0], by simp [go_sem, h1]⟩, by simp [go_sem, f0], by simp [go_sem, f1]⟩
theorem Bd.later {a c : World} {b : Nat} {p q : Value} (h : Bd a b p q) (g : G a c) : Bd c b p q := by
  obtain ⟨⟨h0, h1⟩, f0, f1⟩ := h
  have l0 := cell_lt h0
  exact ⟨⟨g.at h0, g.at h1⟩, (g.frozen (p := ⟨b, 0, none⟩) l0).trans f0, (g.frozen (p := ⟨b, 1, none⟩) l0).trans f1⟩

set_option maxHeartbeats 1600000 in
theorem iSimple_bad (s t : Int) (w : World) (h : ¬ Iv s t) :
    Calls Tryd.prog 31 #[.agg #[.int .i64 s, .int .i64 t]] w fun e w' => e = .returned (.tuple #[.agg #[.int .i64 0, .int .i64 0], .int .i64 0, .int .i64 2]) ∧ G w w' := by
  have HV := Lib.hid h
  clear h
  go_enter Tryd.func31, Tryd.ntmps31
  go_wp2_with fail
  refine (iCheck_any s t _).mono ?_
  rintro e w1 ⟨rfl, hG⟩
  rw [ie_bad HV.out]
  obtain ⟨⟨y0, y1⟩, ⟨z0, z1⟩, f0, f1⟩ := duo2_later hG
  go_wp2_with fail
  refine bodyPost_ret (v := .tuple #[.agg #[.int .i64 0, .int .i64 0], .int .i64 0, .int .i64 2]) (by simp [results, Tryd.results31, go_sem, z0, z1]) rfl ⟨rfl, ?_⟩
  (repeat' (first | (with_reducible exact G.refl _) | (with_reducible assumption) | (with_reducible refine G.drewN ?_ _) | (with_reducible refine G.drew ?_) | (with_reducible refine G.alloc ?_ _) | (with_reducible refine G.setCell ?_ (by first | (with_reducible exact Nat.le_refl _) | (simp; done) | (simp; omega) | omega) _) | (with_reducible refine G.trans ?_ (by assumption))))

set_option maxRecDepth 20000 in
set_option maxHeartbeats 3200000 in
theorem iSimple_ok (s t : Int) (w : World) (h : Iv s t) :
    Calls Tryd.prog 31 #[.agg #[.int .i64 s, .int .i64 t]] w fun e w' => e = .returned (.tuple #[.agg #[.int .i64 (smS s t), .int .i64 (smT s t)], .int .i64 (smO s t), .int .i64 0]) ∧ G w w' := by
  have HI := Lib.hid h
  obtain ⟨⟨u0, u1⟩, v0, v1⟩ := up_bd h
  obtain ⟨u, hu⟩ : ∃ z : Int, Hid (z = us s t) := ⟨_, rfl⟩
  obtain ⟨v, hv⟩ : ∃ z : Int, Hid (z = ut s t) := ⟨_, rfl⟩
  unfold smS smT smO
  rw [← hu.out, ← hv.out]
  rw [← hu.out] at u0 u1
  rw [← hv.out] at v0 v1
  have q1 := IntWalk.i64_in (u / 7) (by omega)
  have q3 : IntKind.i64.wrap (u / 7 * 12) = 12 * (u / 7) := by rw [Int.mul_comm]; exact IntWalk.i64_in (12 * (u / 7)) (by omega)
  have q3' : u / 7 * 12 = 12 * (u / 7) := Int.mul_comm _ _
  have q4 := IntWalk.i64_in (v - 12 * (u / 7)) (by omega)
  have q5 := IntWalk.i64_in (u % 7) (by omega)
  have H6 := Lib.hid (IntWalk.i64_in (-(u % 7)) (by omega))
  have H7 := Lib.hid (IntWalk.i64_in (-(v - 12 * (u / 7))) (by omega))
  have q8 := IntWalk.i64_in (-(u / 7)) (by omega)
  have gb := G.refl ((w.alloc (.cells #[.int .i64 s, .int .i64 t] 23)).alloc (.cells #[.int .i64 0, .int .i64 0] 23))
  have gw : G w ((w.alloc (.cells #[.int .i64 s, .int .i64 t] 23)).alloc (.cells #[.int .i64 0, .int .i64 0] 23)) := by (repeat' (first | (with_reducible exact G.refl _) | (with_reducible refine G.drewN ?_ _) | (with_reducible refine G.drew ?_) | (with_reducible refine G.alloc ?_ _)))
  by_cases hd : dn s t
  · rw [if_pos hd, if_pos hd, if_pos hd]
    have HD := Lib.hid (decide_eq_true hd)
    clear hd h
    go_enter Tryd.func31, Tryd.ntmps31
    go_wp2_with fail
    refine (iCheck_any s t _).mono ?_
    rintro e w1 ⟨rfl, hG⟩
    rw [ie_ok HI.out]
    have gq := gb.trans hG
    obtain ⟨⟨y0, y1⟩, ⟨z0, z1⟩, f0, f1⟩ := duo2_later gq
    go_wp2_with fail
    refine (upward_any s t _ HI.out).mono ?_
    rintro e w2 ⟨rfl, hG2⟩
    rw [← hu.out, ← hv.out, HD.out]
    have gq2 := (gq.trans hG2).alloc (.cells #[.int .i64 u, .int .i64 v] 23)
    clear y0 y1 z0 z1 f0 f1
    obtain ⟨⟨y0, y1⟩, ⟨z0, z1⟩, f0, f1⟩ := duo2_later gq2
    have hbd : Bd (w2.alloc (.cells #[.int .i64 u, .int .i64 v] 23)) (w.heap.size + 1) (.int .i64 0) (.int .i64 0) := ⟨⟨z0, z1⟩, f0, f1⟩
    have hb2 := hbd.set (.int .i64 (u % 7)) (.int .i64 (v - 12 * (u / 7)))
    have g3 : G w (((w2.alloc (.cells #[.int .i64 u, .int .i64 v] 23)).setCell ⟨w.heap.size + 1, 0, none⟩ (.int .i64 (u % 7))).setCell ⟨w.heap.size + 1, 1, none⟩ (.int .i64 (v - 12 * (u / 7)))) := (G.setCell (gw.trans gq2) (by simp) _).setCell (by simp) _
    clear hbd
    go_wp2_with fail
    refine (opposite_any _ _ (-(u % 7)) (-(v - 12 * (u / 7))) _ H6.out H7.out).mono ?_
    rintro e w4 ⟨rfl, hG4⟩
    obtain ⟨⟨x0, x1⟩, x2, x3⟩ := hb2.later hG4
    clear hb2 y0 y1 z0 z1 f0 f1
    go_wp2_with fail
    refine bodyPost_ret (v := .tuple #[.agg #[.int .i64 (-(u % 7)), .int .i64 (-(v - 12 * (u / 7)))], .int .i64 (-(u / 7)), .int .i64 0]) (by simp [results, Tryd.results31, go_sem, x0, x1]) rfl ⟨rfl, ?_⟩
    have gfin := g3.trans hG4
    (repeat' (first | (with_reducible exact G.refl _) | (with_reducible assumption) | (with_reducible refine G.drewN ?_ _) | (with_reducible refine G.drew ?_) | (with_reducible refine G.alloc ?_ _) | (with_reducible refine G.setCell ?_ (by first | (with_reducible exact Nat.le_refl _) | (simp; done) | (simp; omega) | omega) _) | (with_reducible refine G.trans ?_ (by assumption))))
  · rw [if_neg hd, if_neg hd, if_neg hd]
    have HD := Lib.hid (decide_eq_false hd)
    clear hd h
    go_enter Tryd.func31, Tryd.ntmps31
    go_wp2_with fail
    refine (iCheck_any s t _).mono ?_
    rintro e w1 ⟨rfl, hG⟩
    rw [ie_ok HI.out]
    have gq := gb.trans hG
    obtain ⟨⟨y0, y1⟩, ⟨z0, z1⟩, f0, f1⟩ := duo2_later gq
    go_wp2_with fail
    refine (upward_any s t _ HI.out).mono ?_
    rintro e w2 ⟨rfl, hG2⟩
    rw [← hu.out, ← hv.out, HD.out]
    have gq2 := (gq.trans hG2).alloc (.cells #[.int .i64 u, .int .i64 v] 23)
    clear y0 y1 z0 z1 f0 f1
    obtain ⟨⟨y0, y1⟩, ⟨z0, z1⟩, f0, f1⟩ := duo2_later gq2
    have hbd : Bd (w2.alloc (.cells #[.int .i64 u, .int .i64 v] 23)) (w.heap.size + 1) (.int .i64 0) (.int .i64 0) := ⟨⟨z0, z1⟩, f0, f1⟩
    have hb2 := hbd.set (.int .i64 (u % 7)) (.int .i64 (v - 12 * (u / 7)))
    have g3 : G w (((w2.alloc (.cells #[.int .i64 u, .int .i64 v] 23)).setCell ⟨w.heap.size + 1, 0, none⟩ (.int .i64 (u % 7))).setCell ⟨w.heap.size + 1, 1, none⟩ (.int .i64 (v - 12 * (u / 7)))) := (G.setCell (gw.trans gq2) (by simp) _).setCell (by simp) _
    clear hbd
    go_wp2_with fail
    obtain ⟨⟨x0, x1⟩, x2, x3⟩ := hb2.set (.int .i64 (u % 7)) (.int .i64 (v - 12 * (u / 7)))
    refine bodyPost_ret (v := .tuple #[.agg #[.int .i64 (u % 7), .int .i64 (v - 12 * (u / 7))], .int .i64 (u / 7), .int .i64 0]) (by simp only [results, Tryd.results31]; go_simp) rfl ⟨rfl, ?_⟩
    (repeat' (first | (with_reducible exact G.refl _) | (with_reducible assumption) | (with_reducible refine G.drewN ?_ _) | (with_reducible refine G.drew ?_) | (with_reducible refine G.alloc ?_ _) | (with_reducible refine G.setCell ?_ (by first | (with_reducible exact Nat.le_refl _) | (simp; done) | (simp; omega) | omega) _) | (with_reducible refine G.trans ?_ (by assumption))))
end Go.Proofs.YtkooggakngheoaaDoor
