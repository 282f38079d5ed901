/- KeyScales: for every number of fifths, either mode and every octave, Scale returns the pitches of the reference, whose intervals are those of a major or a minor scale, or the errors; the arguments read as before; the tables that the row lists are tied to the program text; no further condition. -/
import Derived.Test.YtdiokagnpiiijaaDoorKnown
import Derived.Test.YtdiokagnpiiijaaDoorLaid
import Derived.Test.YtdiokagnpiiijaaDoorNum
namespace Go.Proofs.YtdiokagnpiiijaaDoor
open Go.RowKit
attribute [local go_sem] World.cell?_alloc_some

/-- the steps of a scale in semitones -/
def stp (m : Bool) (k : Nat) : Int := if m then (if k = 0 then 2 else if k = 1 then 1 else if k = 2 then 2 else if k = 3 then 2 else if k = 4 then 1 else 2) else (if k = 0 then 2 else if k = 1 then 2 else if k = 2 then 1 else if k = 3 then 2 else if k = 4 then 2 else 2)
def nd (f t : Int) (k : Nat) : Int := H ((t + k) % 7) + al f ((t + k) % 7) + 12 * ((t + k) / 7)
theorem nd_all : ∀ (i : Fin 15) (m : Bool) (k : Fin 6), nd ((i : Int) - 7) (tS ((i : Int) - 7 + mi m)) (k.1 + 1) - nd ((i : Int) - 7) (tS ((i : Int) - 7 + mi m)) k.1 = stp m k.1 := by decide +kernel
theorem nb_step {f o : Int} {m : Bool} {k : Nat} (hf : Sg f) (hk : k < 6) : nb (scP f (tS (f + mi m)) o (k + 1)) - nb (scP f (tS (f + mi m)) o k) = stp m k := by
  obtain ⟨f0, f1⟩ := hf
  have h := nd_all ⟨(f + 7).toNat, by omega⟩ m ⟨k, hk⟩
  have e : ((⟨(f + 7).toNat, by omega⟩ : Fin 15) : Int) - 7 = f := by show (((f + 7).toNat : Nat) : Int) - 7 = f; omega
  rw [e] at h
  dsimp only at h
  unfold nd at h
  unfold nb scP
  dsimp only
  generalize H ((tS (f + mi m) + ((k + 1 : Nat) : Int)) % 7) = x1 at *
  generalize H ((tS (f + mi m) + (k : Int)) % 7) = x2 at *
  generalize al f ((tS (f + mi m) + ((k + 1 : Nat) : Int)) % 7) = y1 at *
  generalize al f ((tS (f + mi m) + (k : Int)) % 7) = y2 at *
  generalize (tS (f + mi m) + ((k + 1 : Nat) : Int)) / 7 = z1 at *
  generalize (tS (f + mi m) + (k : Int)) / 7 = z2 at *
  omega
theorem sc_bd {f t o : Int} {k : Nat} (ht : 0 ≤ t ∧ t ≤ 6) (ho : okO t o) (hk : k < 7) : Bd (scP f t o k) := by
  have := al_bd f ((t + (k : Int)) % 7)
  obtain ⟨o0, o1⟩ := ho
  unfold Bd scP
  dsimp only
  omega
theorem sc_get {f t o : Int} {k : Nat} (hk : k < 7) : (scL f t o 7)[k]? = some (scP f t o k) := by
  unfold scL
  rw [List.getElem?_map, List.getElem?_range hk]; rfl
theorem scF_cases (f : Int) (m : Bool) (o : Int) (hf : Sg f) : (scF f m o = [] ∧ scE f m o = 18) ∨ (okO (tS (f + mi m)) o ∧ scF f m o = scL f (tS (f + mi m)) o 7 ∧ scE f m o = 0) := by
  unfold scF scE
  by_cases c : okO (tS (f + mi m)) o
  · right; rw [if_pos ⟨hf, c⟩, if_pos hf, if_pos c]; exact ⟨c, rfl, rfl⟩
  · left; rw [if_neg (fun k => c k.2), if_pos hf, if_neg c]; exact ⟨rfl, rfl⟩

theorem steps_cellf (w : World) (k : Nat) (hk : k < 6) : (w.alloc (.cells #[.int .i64 2, .int .i64 2, .int .i64 1, .int .i64 2, .int .i64 2, .int .i64 2] 3)).cell? ⟨w.heap.size, k, none⟩ = some (.int .i64 (stp false k)) := by
  have h : k = 0 ∨ k = 1 ∨ k = 2 ∨ k = 3 ∨ k = 4 ∨ k = 5 := by omega
  rcases h with rfl | rfl | rfl | rfl | rfl | rfl <;> simp [stp]
theorem steps_cellt (w : World) (k : Nat) (hk : k < 6) : (w.alloc (.cells #[.int .i64 2, .int .i64 1, .int .i64 2, .int .i64 2, .int .i64 1, .int .i64 2] 3)).cell? ⟨w.heap.size, k, none⟩ = some (.int .i64 (stp true k)) := by
  have h : k = 0 ∨ k = 1 ∨ k = 2 ∨ k = 3 ∨ k = 4 ∨ k = 5 := by omega
  rcases h with rfl | rfl | rfl | rfl | rfl | rfl <;> simp [stp]

set_option maxRecDepth 100000 in
set_option maxHeartbeats 3200000 in
theorem scales_ok (f : Int) (m : Bool) (o : Int) (w : World) (bl : -9223372036854775808 ≤ o) (bh : o ≤ 9223372036854775807) (hT : Tab w) (h : Sg f) (hok : okO (tS (f + mi m)) o) (hF : scF f m o = scL f (tS (f + mi m)) o 7) (hE : scE f m o = 0) :
    Calls Tryd.prog 5 #[.int .i64 f, .bool m, .int .i64 o] w fun e w' => e = .returned (.bool true) ∧ G w w' := by
  have HT := Lib.hid hT
  have HS := Lib.hid h
  have HB := Lib.hid (And.intro bl bh)
  have HF := Lib.hid hF
  have HE := Lib.hid hE
  obtain ⟨p, hp⟩ : ∃ p : Nat → P3, ∀ k, p k = scP f (tS (f + mi m)) o k := ⟨_, fun _ => rfl⟩
  have HG := Lib.hid (show ∀ k, k < 7 → (scL f (tS (f + mi m)) o 7)[k]? = some (p k) from fun k hk => by rw [hp]; exact sc_get hk)
  have HBd := Lib.hid (show ∀ k, k < 7 → Bd (p k) from fun k hk => by rw [hp]; exact sc_bd (tS_bd _) hok hk)
  have HN := Lib.hid (show ∀ k, k < 6 → nb (p (k + 1)) - nb (p k) = stp m k from fun k hk => by rw [hp, hp]; exact nb_step h hk)
  clear hp hok hF hE h hT bl bh
  go_enter Tryd.func5, Tryd.ntmps5
  go_wp2_with fail
  refine (Scale_any f m o _ HB.out.1 HB.out.2 (HT.out.later (by (repeat' (first | (with_reducible exact G.refl _) | (with_reducible assumption) | (with_reducible refine G.drewN ?_ _) | (with_reducible refine G.drew ?_) | (with_reducible refine G.alloc ?_ _) | (with_reducible refine G.setCell ?_ (by first | (with_reducible exact Nat.le_refl _) | (simp; done) | (simp; omega) | omega) _) | (with_reducible refine G.trans ?_ (by assumption))))))).mono ?_
  rintro e w1 ⟨v1, rfl, hA1⟩
  have hG1 := hA1.2
  rw [HF.out] at hA1
  rw [HE.out]
  rcases own_cells hA1.1 with ⟨_, q⟩ | ⟨g1, cap1, rfl, _, hcap1, hcap1', hc1⟩
  · have := congrArg List.length q; rw [scL_len] at this; cases this
  rw [scL_len] at hcap1 ⊢
  have HC1 := Lib.hid (show ∀ k, k < 7 → w1.cell? ⟨g1, 3 * k, none⟩ = some (.int .i64 (p k).1) ∧ w1.cell? ⟨g1, 3 * k + 1, none⟩ = some (.int .i64 (p k).2.1) ∧ w1.cell? ⟨g1, 3 * k + 2, none⟩ = some (.int .i64 (p k).2.2) from fun k hk => hc1 k _ (HG.out k hk))
  clear hA1 hc1
  go_wp2_with fail
  refine (known_any _ (HT.out.later (by (repeat' (first | (with_reducible exact G.refl _) | (with_reducible assumption) | (with_reducible refine G.drewN ?_ _) | (with_reducible refine G.drew ?_) | (with_reducible refine G.alloc ?_ _) | (with_reducible refine G.setCell ?_ (by first | (with_reducible exact Nat.le_refl _) | (simp; done) | (simp; omega) | omega) _) | (with_reducible refine G.trans ?_ (by assumption))))))).mono ?_
  rintro e w2 ⟨rfl, hG2⟩
  go_wp2_with fail
  refine (rIs_any f _).mono ?_
  rintro e w3 ⟨rfl, rfl⟩
  rw [decide_eq_true HS.out]
  go_wp2_with fail
  refine (rScale_any f m o _ HS.out HB.out.1 HB.out.2).mono ?_
  rintro e w4 ⟨v4, rfl, hA4⟩
  have hG4 := hA4.2
  rw [HF.out] at hA4
  rw [HE.out]
  rcases own_cells hA4.1 with ⟨_, q⟩ | ⟨g4, cap4, rfl, _, hcap4, hcap4', hc4⟩
  · have := congrArg List.length q; rw [scL_len] at this; cases this
  rw [scL_len] at hcap4 ⊢
  have HC4 := Lib.hid (show ∀ k, k < 7 → w4.cell? ⟨g4, 3 * k, none⟩ = some (.int .i64 (p k).1) ∧ w4.cell? ⟨g4, 3 * k + 1, none⟩ = some (.int .i64 (p k).2.1) ∧ w4.cell? ⟨g4, 3 * k + 2, none⟩ = some (.int .i64 (p k).2.2) from fun k hk => hc4 k _ (HG.out k hk))
  have gw4 : G w w4 := by (repeat' (first | (with_reducible exact G.refl _) | (with_reducible assumption) | (with_reducible refine G.drewN ?_ _) | (with_reducible refine G.drew ?_) | (with_reducible refine G.alloc ?_ _) | (with_reducible refine G.setCell ?_ (by first | (with_reducible exact Nat.le_refl _) | (simp; done) | (simp; omega) | omega) _) | (with_reducible refine G.trans ?_ (by assumption))))
  have g14 : G w1 w4 := hG2.trans hG4
  clear hA4 hc4 hG1 hG2 hG4
  go_wp2_with fail
  go_loopg [11] 7 (fun g x wr => ∃ k : Nat, x = .int .i64 k ∧ g = 7 - k ∧ k ≤ 7 ∧ G w4 wr)
  case atStart => exact ⟨0, rfl, rfl, by omega, G.refl _⟩
  case round =>
    obtain ⟨k, rfl, hg, hk, hG5⟩ := hrel
    have HGK := Lib.hid hg
    clear hg
    by_cases k7 : k = 7
    · subst k7
      generalize wr = W5 at *
      cases m
      · have HST := Lib.hid (show ∀ k, k < 6 → (W5.alloc (.cells #[.int .i64 2, .int .i64 2, .int .i64 1, .int .i64 2, .int .i64 2, .int .i64 2] 3)).cell? ⟨W5.heap.size, k, none⟩ = some (.int .i64 (stp false k)) from fun k hk => steps_cellf W5 k hk)
        go_wp2_with fail
        go_loopg [13] 6 (fun g x wr' => ∃ j k : Nat, x = .int .i64 (j : Int) ∧ j = k + 1 ∧ g = 6 - k ∧ k ≤ 6 ∧ G (W5.alloc (.cells #[.int .i64 2, .int .i64 2, .int .i64 1, .int .i64 2, .int .i64 2, .int .i64 2] 3)) wr')
        case atStart => exact ⟨1, 0, rfl, rfl, rfl, by omega, G.refl _⟩
        case round =>
          obtain ⟨j, k, rfl, hj, hg, hk, hG6⟩ := hrel
          have HJ := Lib.hid hj
          have HGL := Lib.hid hg
          clear hg
          have g56 : G W5 wr := G.trans (by (repeat' (first | (with_reducible exact G.refl _) | (with_reducible refine G.drewN ?_ _) | (with_reducible refine G.drew ?_) | (with_reducible refine G.alloc ?_ _)))) hG6
          by_cases k6 : k = 6
          · subst k6
            subst hj
            go_wp2_with fail
            go_ret
            exact ⟨rfl, gw4.trans (hG5.trans g56)⟩
          · have h6 : k < 6 := by omega
            have g16 := g14.trans (hG5.trans g56)
            obtain ⟨c0, c1, c2⟩ := HC1.out k (by omega)
            obtain ⟨d0, d1, d2⟩ := HC1.out j (by omega)
            replace c0 := g16.at c0
            replace c1 := g16.at c1
            replace c2 := g16.at c2
            replace d0 := g16.at d0
            replace d1 := g16.at d1
            replace d2 := g16.at d2
            have e0 := hG6.at (HST.out k h6)
            rw [← HN.out k h6, ← hj] at e0
            have HB0 := Lib.hid (HBd.out k (by omega))
            have HB1 := Lib.hid (HBd.out j (by omega))
            have b0 := nb_bd HB0.out
            have b1 := nb_bd HB1.out
            generalize p k = pk at *
            generalize p j = pl at *
            obtain ⟨p1, p2, p3⟩ := pk
            obtain ⟨r1, r2, r3⟩ := pl
            obtain ⟨n0, hn0⟩ : ∃ z : Int, Hid (z = nb (p1, p2, p3)) := ⟨_, rfl⟩
            obtain ⟨n1, hn1⟩ : ∃ z : Int, Hid (z = nb (r1, r2, r3)) := ⟨_, rfl⟩
            rw [← hn0.out] at b0
            rw [← hn1.out] at b1
            rw [← hn0.out, ← hn1.out] at e0
            dsimp only at c0 c1 c2 d0 d1 d2
            rw [Nat.mul_comm] at c0 c1 c2 d0 d1 d2
            have q := IntWalk.i64_in ((j : Int) + 1) (by omega)
            have q1 : IntKind.i64.wrap ((j : Int) - 1) = (k : Int) := by rw [IntWalk.i64_in _ (by omega)]; omega
            have q2 := IntWalk.i64_in (n1 - n0) (by omega)
            have l1 : (j : Int) < 7 := by omega
            have l2 : (0 : Int) ≤ (j : Int) := by omega
            have l3 : (k : Int) < 7 := by omega
            have l4 : (0 : Int) ≤ (k : Int) := by omega
            have l5 : (k : Int) < 6 := by omega
            clear hj
            have hG7 := G.refl wr
            go_wp2_with fail
            go_region_held3 (fun w' => ((w'.cell? ⟨g1, k * 3, none⟩ = some (.int .i64 p1) ∧ w'.cell? ⟨g1, k * 3 + 1, none⟩ = some (.int .i64 p2) ∧ w'.cell? ⟨g1, k * 3 + 2, none⟩ = some (.int .i64 p3)) ∧ w'.cell? ⟨g1, j * 3, none⟩ = some (.int .i64 r1) ∧ w'.cell? ⟨g1, j * 3 + 1, none⟩ = some (.int .i64 r2) ∧ w'.cell? ⟨g1, j * 3 + 2, none⟩ = some (.int .i64 r3)) ∧ w'.cell? ⟨W5.heap.size, k, none⟩ = some (.int .i64 (n1 - n0)))
              (first | (with_reducible assumption) | ((try dsimp only); (repeat' (with_reducible apply And.intro)) <;> go_simp))
              (first | (go_at_call 27; refine (rNumber_any _ _ _ _ (by first | exact HB1.out | exact HB0.out)).mono ?_; rintro e w6 ⟨rfl, hG8⟩; (first | rw [← hn1.out] | rw [← hn0.out]); have gq := hG7.trans (G.trans (by (repeat' (first | (with_reducible exact G.refl _) | (with_reducible refine G.drewN ?_ _) | (with_reducible refine G.drew ?_) | (with_reducible refine G.alloc ?_ _)))) hG8); clear hG7; have hG7 := gq; have u0 := gq.at c0; have u1 := gq.at c1; have u2 := gq.at c2; have v0 := gq.at d0; have v1 := gq.at d1; have v2 := gq.at d2; have x0 := gq.at e0))
            all_goals
              go_wp2_with fail
              go_roundg (6 - (k + 1))
              case measure => have := HGL.out; omega
              case rel => exact ⟨j + 1, k + 1, by go_num, by have := HJ.out; omega, rfl, by omega, hG6.trans hG7⟩
      · have HST := Lib.hid (show ∀ k, k < 6 → ((W5.alloc (.cells #[.int .i64 2, .int .i64 2, .int .i64 1, .int .i64 2, .int .i64 2, .int .i64 2] 3)).alloc (.cells #[.int .i64 2, .int .i64 1, .int .i64 2, .int .i64 2, .int .i64 1, .int .i64 2] 3)).cell? ⟨W5.heap.size + 1, k, none⟩ = some (.int .i64 (stp true k)) from fun k hk => by have := steps_cellt (W5.alloc (.cells #[.int .i64 2, .int .i64 2, .int .i64 1, .int .i64 2, .int .i64 2, .int .i64 2] 3)) k hk; simpa using this)
        go_wp2_with fail
        go_loopg [13] 6 (fun g x wr' => ∃ j k : Nat, x = .int .i64 (j : Int) ∧ j = k + 1 ∧ g = 6 - k ∧ k ≤ 6 ∧ G ((W5.alloc (.cells #[.int .i64 2, .int .i64 2, .int .i64 1, .int .i64 2, .int .i64 2, .int .i64 2] 3)).alloc (.cells #[.int .i64 2, .int .i64 1, .int .i64 2, .int .i64 2, .int .i64 1, .int .i64 2] 3)) wr')
        case atStart => exact ⟨1, 0, rfl, rfl, rfl, by omega, G.refl _⟩
        case round =>
          obtain ⟨j, k, rfl, hj, hg, hk, hG6⟩ := hrel
          have HJ := Lib.hid hj
          have HGL := Lib.hid hg
          clear hg
          have g56 : G W5 wr := G.trans (by (repeat' (first | (with_reducible exact G.refl _) | (with_reducible refine G.drewN ?_ _) | (with_reducible refine G.drew ?_) | (with_reducible refine G.alloc ?_ _)))) hG6
          by_cases k6 : k = 6
          · subst k6
            subst hj
            go_wp2_with fail
            go_ret
            exact ⟨rfl, gw4.trans (hG5.trans g56)⟩
          · have h6 : k < 6 := by omega
            have g16 := g14.trans (hG5.trans g56)
            obtain ⟨c0, c1, c2⟩ := HC1.out k (by omega)
            obtain ⟨d0, d1, d2⟩ := HC1.out j (by omega)
            replace c0 := g16.at c0
            replace c1 := g16.at c1
            replace c2 := g16.at c2
            replace d0 := g16.at d0
            replace d1 := g16.at d1
            replace d2 := g16.at d2
            have e0 := hG6.at (HST.out k h6)
            rw [← HN.out k h6, ← hj] at e0
            have HB0 := Lib.hid (HBd.out k (by omega))
            have HB1 := Lib.hid (HBd.out j (by omega))
            have b0 := nb_bd HB0.out
            have b1 := nb_bd HB1.out
            generalize p k = pk at *
            generalize p j = pl at *
            obtain ⟨p1, p2, p3⟩ := pk
            obtain ⟨r1, r2, r3⟩ := pl
            obtain ⟨n0, hn0⟩ : ∃ z : Int, Hid (z = nb (p1, p2, p3)) := ⟨_, rfl⟩
            obtain ⟨n1, hn1⟩ : ∃ z : Int, Hid (z = nb (r1, r2, r3)) := ⟨_, rfl⟩
            rw [← hn0.out] at b0
            rw [← hn1.out] at b1
            rw [← hn0.out, ← hn1.out] at e0
            dsimp only at c0 c1 c2 d0 d1 d2
            rw [Nat.mul_comm] at c0 c1 c2 d0 d1 d2
            have q := IntWalk.i64_in ((j : Int) + 1) (by omega)
            have q1 : IntKind.i64.wrap ((j : Int) - 1) = (k : Int) := by rw [IntWalk.i64_in _ (by omega)]; omega
            have q2 := IntWalk.i64_in (n1 - n0) (by omega)
            have l1 : (j : Int) < 7 := by omega
            have l2 : (0 : Int) ≤ (j : Int) := by omega
            have l3 : (k : Int) < 7 := by omega
            have l4 : (0 : Int) ≤ (k : Int) := by omega
            have l5 : (k : Int) < 6 := by omega
            clear hj
            have hG7 := G.refl wr
            go_wp2_with fail
            go_region_held3 (fun w' => ((w'.cell? ⟨g1, k * 3, none⟩ = some (.int .i64 p1) ∧ w'.cell? ⟨g1, k * 3 + 1, none⟩ = some (.int .i64 p2) ∧ w'.cell? ⟨g1, k * 3 + 2, none⟩ = some (.int .i64 p3)) ∧ w'.cell? ⟨g1, j * 3, none⟩ = some (.int .i64 r1) ∧ w'.cell? ⟨g1, j * 3 + 1, none⟩ = some (.int .i64 r2) ∧ w'.cell? ⟨g1, j * 3 + 2, none⟩ = some (.int .i64 r3)) ∧ w'.cell? ⟨W5.heap.size + 1, k, none⟩ = some (.int .i64 (n1 - n0)))
              (first | (with_reducible assumption) | ((try dsimp only); (repeat' (with_reducible apply And.intro)) <;> go_simp))
              (first | (go_at_call 27; refine (rNumber_any _ _ _ _ (by first | exact HB1.out | exact HB0.out)).mono ?_; rintro e w6 ⟨rfl, hG8⟩; (first | rw [← hn1.out] | rw [← hn0.out]); have gq := hG7.trans (G.trans (by (repeat' (first | (with_reducible exact G.refl _) | (with_reducible refine G.drewN ?_ _) | (with_reducible refine G.drew ?_) | (with_reducible refine G.alloc ?_ _)))) hG8); clear hG7; have hG7 := gq; have u0 := gq.at c0; have u1 := gq.at c1; have u2 := gq.at c2; have v0 := gq.at d0; have v1 := gq.at d1; have v2 := gq.at d2; have x0 := gq.at e0))
            all_goals
              go_wp2_with fail
              go_roundg (6 - (k + 1))
              case measure => have := HGL.out; omega
              case rel => exact ⟨j + 1, k + 1, by go_num, by have := HJ.out; omega, rfl, by omega, hG6.trans hG7⟩
    · have h7 : k < 7 := by omega
      obtain ⟨c0, c1, c2⟩ := HC1.out k h7
      obtain ⟨d0, d1, d2⟩ := HC4.out k h7
      have g15 := g14.trans hG5
      replace c0 := g15.at c0
      replace c1 := g15.at c1
      replace c2 := g15.at c2
      replace d0 := hG5.at d0
      replace d1 := hG5.at d1
      replace d2 := hG5.at d2
      generalize p k = pk at *
      obtain ⟨p1, p2, p3⟩ := pk
      dsimp only at c0 c1 c2 d0 d1 d2
      rw [Nat.mul_comm] at c0 c1 c2 d0 d1 d2
      have q := IntWalk.i64_in ((k : Int) + 1) (by omega)
      go_wp2_with fail
      go_region_held3 (fun w' => (w'.cell? ⟨g1, k * 3, none⟩ = some (.int .i64 p1) ∧ w'.cell? ⟨g1, k * 3 + 1, none⟩ = some (.int .i64 p2) ∧ w'.cell? ⟨g1, k * 3 + 2, none⟩ = some (.int .i64 p3)) ∧ w'.cell? ⟨g4, k * 3, none⟩ = some (.int .i64 p1) ∧ w'.cell? ⟨g4, k * 3 + 1, none⟩ = some (.int .i64 p2) ∧ w'.cell? ⟨g4, k * 3 + 2, none⟩ = some (.int .i64 p3))
        (first | (with_reducible assumption) | ((try dsimp only); (repeat' (with_reducible apply And.intro)) <;> go_simp))
        (fail)
      go_wp2_with fail
      go_roundg (7 - (k + 1))
      case measure => have := HGK.out; omega
      case rel => exact ⟨k + 1, by go_num, rfl, by omega, by (repeat' (first | (with_reducible exact G.refl _) | (with_reducible assumption) | (with_reducible refine G.drewN ?_ _) | (with_reducible refine G.drew ?_) | (with_reducible refine G.alloc ?_ _) | (with_reducible refine G.setCell ?_ (by first | (with_reducible exact Nat.le_refl _) | (simp; done) | (simp; omega) | omega) _) | (with_reducible refine G.trans ?_ (by assumption))))⟩

theorem empty_slice {W : World} {base : Nat} {e : TypeId} {v : Value} (h : W.ownsRow base e 3 v ([] : List P3).length (flat [])) : ∃ p c, v = .slice p 0 c := by
  rcases own_cells h with ⟨rfl, _⟩ | ⟨g, cap, rfl, _⟩
  · exact ⟨_, _, rfl⟩
  · exact ⟨_, _, rfl⟩

set_option maxRecDepth 100000 in
set_option maxHeartbeats 3200000 in
theorem scales_empty (f : Int) (m : Bool) (o : Int) (w : World) (bl : -9223372036854775808 ≤ o) (bh : o ≤ 9223372036854775807) (hT : Tab w) (h : Sg f) (hF : scF f m o = []) (hE : scE f m o = 18) :
    Calls Tryd.prog 5 #[.int .i64 f, .bool m, .int .i64 o] w fun e w' => e = .returned (.bool true) ∧ G w w' := by
  have HT := Lib.hid hT
  have HS := Lib.hid h
  have HB := Lib.hid (And.intro bl bh)
  have HF := Lib.hid hF
  have HE := Lib.hid hE
  clear hF hE h hT bl bh
  cases m
  all_goals
    go_enter Tryd.func5, Tryd.ntmps5
    go_wp2_with fail
    refine (Scale_any f _ o _ HB.out.1 HB.out.2 (HT.out.later (by (repeat' (first | (with_reducible exact G.refl _) | (with_reducible assumption) | (with_reducible refine G.drewN ?_ _) | (with_reducible refine G.drew ?_) | (with_reducible refine G.alloc ?_ _) | (with_reducible refine G.setCell ?_ (by first | (with_reducible exact Nat.le_refl _) | (simp; done) | (simp; omega) | omega) _) | (with_reducible refine G.trans ?_ (by assumption))))))).mono ?_
    rintro e w1 ⟨v1, rfl, hA1⟩
    have hG1 := hA1.2
    rw [HF.out] at hA1
    rw [HE.out]
    obtain ⟨p1, c1, rfl⟩ := empty_slice hA1.1
    clear hA1
    go_wp2_with fail
    refine (known_any _ (HT.out.later (by (repeat' (first | (with_reducible exact G.refl _) | (with_reducible assumption) | (with_reducible refine G.drewN ?_ _) | (with_reducible refine G.drew ?_) | (with_reducible refine G.alloc ?_ _) | (with_reducible refine G.setCell ?_ (by first | (with_reducible exact Nat.le_refl _) | (simp; done) | (simp; omega) | omega) _) | (with_reducible refine G.trans ?_ (by assumption))))))).mono ?_
    rintro e w2 ⟨rfl, hG2⟩
    go_wp2_with fail
    refine (rIs_any f _).mono ?_
    rintro e w3 ⟨rfl, rfl⟩
    rw [decide_eq_true HS.out]
    go_wp2_with fail
    refine (rScale_any f _ o _ HS.out HB.out.1 HB.out.2).mono ?_
    rintro e w4 ⟨v4, rfl, hA4⟩
    have hG4 := hA4.2
    rw [HF.out] at hA4
    rw [HE.out]
    obtain ⟨p4, c4, rfl⟩ := empty_slice hA4.1
    have gw4 : G w w4 := hG1.trans (hG2.trans hG4)
    clear hA4 hG1 hG2 hG4
    go_wp2_with fail
    go_loopw [11] (fun x wr => x = .int .i64 0 ∧ wr = w4) (fun _ _ => 0)
    case atStart => exact ⟨rfl, rfl⟩
    case round =>
      obtain ⟨rfl, rfl⟩ := hrel
      go_wp2_with fail
      go_loopw [13] (fun x wr' => x = .int .i64 1 ∧ G wr wr') (fun _ _ => 0)
      case atStart => exact ⟨rfl, by (repeat' (first | (with_reducible exact G.refl _) | (with_reducible refine G.drewN ?_ _) | (with_reducible refine G.drew ?_) | (with_reducible refine G.alloc ?_ _)))⟩
      case round =>
        obtain ⟨rfl, hG9⟩ := hrel
        go_wp2_with fail
        go_ret
        exact ⟨rfl, gw4.trans hG9⟩

theorem scales_walk (f : Int) (m : Bool) (o : Int) (w : World) (_ : -9223372036854775808 ≤ f) (_ : f ≤ 9223372036854775807) (bl : -9223372036854775808 ≤ o) (bh : o ≤ 9223372036854775807) (hT : Tab w) :
    Calls Tryd.prog 5 #[.int .i64 f, .bool m, .int .i64 o] w fun e w' => e = .returned (.bool true) ∧ G w w' := by
  by_cases h : Sg f
  · rcases scF_cases f m o h with ⟨hF, hE⟩ | ⟨hok, hF, hE⟩
    · exact scales_empty f m o w bl bh hT h hF hE
    · exact scales_ok f m o w bl bh hT h hok hF hE
  · have HT := Lib.hid hT
    have HS := Lib.hid h
    clear h hT bl bh
    go_enter Tryd.func5, Tryd.ntmps5
    go_wp2_with fail
    refine (Scale_bad f m o _ HS.out).mono ?_
    rintro e w1 ⟨rfl, rfl⟩
    go_wp2_with fail
    refine (known_any _ (HT.out.later (by (repeat' (first | (with_reducible exact G.refl _) | (with_reducible assumption) | (with_reducible refine G.drewN ?_ _) | (with_reducible refine G.drew ?_) | (with_reducible refine G.alloc ?_ _) | (with_reducible refine G.setCell ?_ (by first | (with_reducible exact Nat.le_refl _) | (simp; done) | (simp; omega) | omega) _) | (with_reducible refine G.trans ?_ (by assumption))))))).mono ?_
    rintro e w2 ⟨rfl, hG2⟩
    go_wp2_with fail
    refine (rIs_any f _).mono ?_
    rintro e w3 ⟨rfl, rfl⟩
    rw [decide_eq_false HS.out]
    go_wp2_with fail
    go_ret
    exact ⟨rfl, by (repeat' (first | (with_reducible exact G.refl _) | (with_reducible assumption) | (with_reducible refine G.drewN ?_ _) | (with_reducible refine G.drew ?_) | (with_reducible refine G.alloc ?_ _) | (with_reducible refine G.setCell ?_ (by first | (with_reducible exact Nat.le_refl _) | (simp; done) | (simp; omega) | omega) _) | (with_reducible refine G.trans ?_ (by assumption))))⟩

/-! ### the row and the card -/
open Go.ChangeShapes Go.WideShapes Go.ChangeAt Go.RowKit
set_option maxRecDepth 100000 in
theorem keyScales_lifted (os : Os) (started : os.Started) (H : Type) (enc : TypeId × Value → H) :
    ReturnsInHanded {} Tryd.checked os 5 .any (fun w args => (Rows.keyScalesSpec.pre enc Tryd.prog Tryd.f5 [] false w args ∧ laidMetH Tryd.prog laidL w) ∧ sizedMet enc Tryd.prog Tryd.f5 (OpenSpec.ofChange Rows.keyScalesSpec) false w args)
      (Rows.keyScalesSpec.post enc Tryd.prog Tryd.f5 false true false false) := by
  refine returnsInHanded_of_change_and (C := Tryd.checked) (X := fun w _ => laidMetH Tryd.prog laidL w) (fun _ _ _ hh h => h.of_heap hh) own started (by kernel_rfl) Tryd.func5
    (ChangeSpec.witness_shaped (enc := enc) (C := Tryd.checked) (os := os) (X := fun w _ => laidMetH Tryd.prog laidL w) false (World.laidAll Tryd.prog os laidL) #[.int .i64 0, .bool false, .int .i64 0] 8 (World.laidAll_os _ _ _) (shapedL os) (by kernel_rfl) (by kernel_rfl) (by kernel_rfl) (laid_met os _)) ?_
  intro W base args ds gs before hval0 hW _ _ hL _
  have hval : ∀ (j : Nat) t v, Tryd.f5.params[j]? = some t → args[j]? = some v → Value.okWide Tryd.prog W .any base t v := hval0
  have hW' := hW
  obtain ⟨p, q, hA0, hV, rfl, hfz, hnd⟩ := hW
  have hA : DataW.TrodAll enc Tryd.prog W 0 (fun _ => true) true Tryd.f5.params.toList args.toList ds p := hA0
  rw [Tryd.params5] at hA hval
  obtain ⟨v0, vs0, d0, ds0, p0, q0, hargs, rfl, rfl, h0, r0⟩ := trodAll_cons hA
  obtain ⟨v1, vs1, d1, ds1, p1, q1, rfl, rfl, rfl, h1, r1⟩ := trodAll_cons r0
  obtain ⟨v2, vs2, d2, ds2, p2, q2, rfl, rfl, rfl, h2, r2⟩ := trodAll_cons r1
  obtain ⟨rfl, rfl, rfl⟩ := trodAll_nil r2
  obtain rfl : args = #[v0, v1, v2] := by cases args; simp_all
  obtain ⟨rfl, rfl⟩ := trodVars_none hV
  obtain ⟨a0, rfl, rfl, rfl, w0⟩ := open_int Tryd.underlying3 (hval 0 3 v0 rfl rfl) h0
  obtain ⟨bl0, bh0⟩ := bounds_i64 w0
  obtain ⟨a1, rfl, rfl, rfl⟩ := open_bool Tryd.underlying4 (hval 1 4 v1 rfl rfl) h1
  obtain ⟨a2, rfl, rfl, rfl, w2⟩ := open_int Tryd.underlying3 (hval 2 3 v2 rfl rfl) h2
  obtain ⟨bl2, bh2⟩ := bounds_i64 w2
  clear hA0 hval0
  simp only [List.append_nil] at hW'
  refine (scales_walk a0 a1 a2 W bl0 bh0  bl2 bh2  (tab_of_laid hL)).mono fun e W' ⟨he, hg⟩ => ?_
  subst he
  exact ⟨_, rfl, _, _, _, [], [], [], hW', (trodAll_cons_mk (shut_bool Tryd.underlying4 _) trodAll_mk0), (trodAll_cons_mk (shut_int Tryd.underlying3 w0) (trodAll_cons_mk (shut_bool Tryd.underlying4 _) (trodAll_cons_mk (shut_int Tryd.underlying3 w2) trodAll_mk0))), rfl, Below.frame hg _, fun h => by cases h⟩

theorem keyScales_holds : Rows.KeyScalesSaid :=
  OpenClaim.holds_of_wide 5 Tryd.f5 rfl rfl rfl rfl rfl rfl rfl ⟨rfl, rfl, rfl, rfl, rfl⟩ rfl rfl rfl rfl rfl (by kernel_rfl) Tryd.func5 (by kernel_rfl)
    (of_decide_eq_true (by kernel_rfl)) (by unfold Func.isWrapper; first | (rw [if_pos (by decide +kernel)]; kernel_rfl) | (rw [if_neg (by decide +kernel)]; exact ⟨rfl, rfl⟩))
    (fun os started H enc _ => keyScales_lifted os started H enc)

theorem keyScales_card : Rows.KeyScalesCardSaid :=
  Claim7.holds_tied_plain_at .later [] [.data, .data] true (true, "2117eec5325c27370f2aa61ddd4a23a865e68bbc1d9bb0ef2c27e10075a20c79") false
    keyScales_holds (fun _ h => by cases h) (by kernel_rfl) (fun _ h => by cases h) keyScales_row_tie rfl ⟨rfl, rfl⟩ (by kernel_rfl) rfl
    (fun f fn hf hfn => by
      obtain rfl : f = 5 := Option.some.inj ((show Tryd.prog.funcNamed "hemiola/hemiolalaw07.KeyScales" = some 5 by kernel_rfl).symm.trans hf) |>.symm
      obtain rfl : fn = Tryd.f5 := (Option.some.inj (Tryd.func5.symm.trans hfn)).symm
      exact ⟨by kernel_rfl, fun j t ht => by
        rw [Tryd.params5] at ht
        have hm : t ∈ [3, 4, 3] := by simpa using Array.mem_of_getElem? ht
        have hall : ([3, 4, 3].all fun u => !Tryd.prog.wantsStandIn u) = true := by kernel_rfl
        exact (show Tryd.prog.wantsStandIn t = false by simpa using List.all_eq_true.1 hall t hm)⟩)
    (by kernel_rfl)
#print axioms keyScales_card
end Go.Proofs.YtdiokagnpiiijaaDoor
