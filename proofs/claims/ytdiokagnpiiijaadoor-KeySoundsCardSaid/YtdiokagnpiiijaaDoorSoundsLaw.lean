/- KeySounds: for every number and every interval, the scale of the transposed signature sounds like the scale, shifted by the semitones of the interval, up to octaves; the arguments read as before; the tables that the row lists are tied to the program text; no further condition. -/
import Derived.Test.YtdiokagnpiiijaaDoorKnown
import Derived.Test.YtdiokagnpiiijaaDoorLaid
import Derived.Test.YtdiokagnpiiijaaDoorNum
namespace Go.Proofs.YtdiokagnpiiijaaDoor
open Go.RowKit
attribute [local go_sem] World.cell?_alloc_some

def sx (f : Int) (k : Nat) : Int := H ((tS (f + mi false) + k) % 7) + al f ((tS (f + mi false) + k) % 7)
theorem sx_all : ∀ (i : Fin 15) (k : Fin 7), (sx ((i : Int) - 7) k.1 - 7 * ((i : Int) - 7) - sx 0 k.1) % 12 = 0 := by decide +kernel
theorem sx_eq {f : Int} {k : Nat} (hf : Sg f) (hk : k < 7) : (sx f k - 7 * f - sx 0 k) % 12 = 0 := by
  obtain ⟨f0, f1⟩ := hf
  have h := sx_all ⟨(f + 7).toNat, by omega⟩ ⟨k, hk⟩
  have e : ((⟨(f + 7).toNat, by omega⟩ : Fin 15) : Int) - 7 = f := by show (((f + 7).toNat : Nat) : Int) - 7 = f; omega
  rw [e] at h
  exact h
theorem red_mod (n : Int) : (red n - n) % 12 = 0 := by
  unfold red; (repeat' split) <;> omega
theorem nb_sounds {f s t : Int} {k : Nat} (hf : Sg f) (hk : k < 7) : (nb (scP (red (f + 7 * t - 12 * s)) (tS (red (f + 7 * t - 12 * s) + mi false)) 4 k) - nb (scP f (tS (f + mi false)) 4 k) - t) % 12 = 0 := by
  have h1 := sx_eq (red_sg (f + 7 * t - 12 * s)) hk
  have h2 := sx_eq hf hk
  have h3 := red_mod (f + 7 * t - 12 * s)
  unfold sx at h1 h2
  unfold nb scP
  dsimp only
  omega
theorem sok_all : ∀ (i : Fin 15), okO (tS ((i : Int) - 7 + mi false)) 4 := by decide +kernel
theorem sok {f : Int} (hf : Sg f) : okO (tS (f + mi false)) 4 := by
  obtain ⟨f0, f1⟩ := hf
  have h := sok_all ⟨(f + 7).toNat, by omega⟩
  have e : ((⟨(f + 7).toNat, by omega⟩ : Fin 15) : Int) - 7 = f := by show (((f + 7).toNat : Nat) : Int) - 7 = f; omega
  rw [e] at h
  exact h
theorem sc_bd' {f t o : Int} {k : Nat} (ht : 0 ≤ t ∧ t ≤ 6) (ho : okO t o) (hk : k < 7) : Bd (scP f t o k) := by
  have := al_bd f ((t + (k : Int)) % 7)
  obtain ⟨o0, o1⟩ := ho
  unfold Bd scP
  dsimp only
  omega
theorem sc_get' {f t o : Int} {k : Nat} (hk : k < 7) : (scL f t o 7)[k]? = some (scP f t o k) := by
  unfold scL
  rw [List.getElem?_map, List.getElem?_range hk]; rfl
theorem sc4 {f : Int} (hf : Sg f) : scF f false 4 = scL f (tS (f + mi false)) 4 7 ∧ scE f false 4 = 0 := by
  unfold scF scE
  rw [if_pos ⟨hf, sok hf⟩, if_pos hf, if_pos (sok hf)]; exact ⟨rfl, rfl⟩

set_option maxRecDepth 100000 in
set_option maxHeartbeats 3200000 in
theorem sounds_iv (u s t : Int) (w : World) (bl : 0 ≤ u) (bh : u ≤ 255) (hi : ¬ Iv s t) (hT : Tab w) :
    Calls Tryd.prog 9 #[.int .u8 u, .agg #[.int .i64 s, .int .i64 t]] w fun e w' => e = .returned (.bool true) ∧ G w w' := by
  have HT := Lib.hid hT
  have HI := Lib.hid hi
  have HS := Lib.hid (show Sg (u % 15 - 7) by unfold Sg; omega)
  clear hT hi
  go_enter Tryd.func9, Tryd.ntmps9
  go_wp2_with fail
  refine (Transpose_iv (u % 15 - 7) s t _ HS.out HI.out).mono ?_
  rintro e w1 ⟨rfl, hG1⟩
  go_wp2_with fail
  refine (known_any _ (HT.out.later (by (repeat' (first | (with_reducible exact G.refl _) | (with_reducible assumption) | (with_reducible refine G.drewN ?_ _) | (with_reducible refine G.drew ?_) | (with_reducible refine G.alloc ?_ _) | (with_reducible refine G.setCell ?_ (by first | (with_reducible exact Nat.le_refl _) | (simp; done) | (simp; omega) | omega) _) | (with_reducible refine G.trans ?_ (by assumption))))))).mono ?_
  rintro e w2 ⟨rfl, hG2⟩
  go_wp2_with fail
  refine (known_any _ (HT.out.later (by (repeat' (first | (with_reducible exact G.refl _) | (with_reducible assumption) | (with_reducible refine G.drewN ?_ _) | (with_reducible refine G.drew ?_) | (with_reducible refine G.alloc ?_ _) | (with_reducible refine G.setCell ?_ (by first | (with_reducible exact Nat.le_refl _) | (simp; done) | (simp; omega) | omega) _) | (with_reducible refine G.trans ?_ (by assumption))))))).mono ?_
  rintro e w3 ⟨rfl, hG3⟩
  go_wp2_with fail
  go_ret
  exact ⟨rfl, by (repeat' (first | (with_reducible exact G.refl _) | (with_reducible assumption) | (with_reducible refine G.drewN ?_ _) | (with_reducible refine G.drew ?_) | (with_reducible refine G.alloc ?_ _) | (with_reducible refine G.setCell ?_ (by first | (with_reducible exact Nat.le_refl _) | (simp; done) | (simp; omega) | omega) _) | (with_reducible refine G.trans ?_ (by assumption))))⟩

set_option maxRecDepth 100000 in
set_option maxHeartbeats 3200000 in
theorem sounds_ok (u f s t : Int) (w : World) (bl : 0 ≤ u) (bh : u ≤ 255) (hf : u % 15 - 7 = f) (hi : Iv s t) (hT : Tab w) :
    Calls Tryd.prog 9 #[.int .u8 u, .agg #[.int .i64 s, .int .i64 t]] w fun e w' => e = .returned (.bool true) ∧ G w w' := by
  have HT := Lib.hid hT
  have HI := Lib.hid hi
  have hs : Sg f := by unfold Sg; omega
  have HS := Lib.hid hs
  obtain ⟨⟨_, _⟩, t0, t1⟩ := hi
  obtain ⟨n, hn⟩ : ∃ z : Int, Hid (z = red (f + 7 * t - 12 * s)) := ⟨_, rfl⟩
  have HN := Lib.hid (show Sg n by rw [hn.out]; exact red_sg _)
  obtain ⟨p, hp⟩ : ∃ p : Nat → P3, ∀ k, p k = scP f (tS (f + mi false)) 4 k := ⟨_, fun _ => rfl⟩
  obtain ⟨r, hr⟩ : ∃ p : Nat → P3, ∀ k, p k = scP n (tS (n + mi false)) 4 k := ⟨_, fun _ => rfl⟩
  have HGp := Lib.hid (show ∀ k, k < 7 → (scL f (tS (f + mi false)) 4 7)[k]? = some (p k) from fun k hk => by rw [hp]; exact sc_get' hk)
  have HBp := Lib.hid (show ∀ k, k < 7 → Bd (p k) from fun k hk => by rw [hp]; exact sc_bd' (tS_bd _) (sok hs) hk)
  have HGr := Lib.hid (show ∀ k, k < 7 → (scL n (tS (n + mi false)) 4 7)[k]? = some (r k) from fun k hk => by rw [hr]; exact sc_get' hk)
  have HBr := Lib.hid (show ∀ k, k < 7 → Bd (r k) from fun k hk => by rw [hr]; exact sc_bd' (tS_bd _) (sok HN.out) hk)
  have HM := Lib.hid (show ∀ k, k < 7 → (nb (r k) - nb (p k) - t) % 12 = 0 from fun k hk => by rw [hr, hp, hn.out]; exact nb_sounds hs hk)
  clear hp hr hs hT
  have HF := Lib.hid hf
  clear hf
  go_enter Tryd.func9, Tryd.ntmps9
  go_wp2_with fail
  rw [HF.out]
  refine (Transpose_ok f s t _ HS.out HI.out).mono ?_
  rintro e w1 ⟨rfl, hG1⟩
  rw [← hn.out]
  obtain ⟨y0, y1⟩ := two_at rfl hG1
  have gw1 : G w w1 := by (repeat' (first | (with_reducible exact G.refl _) | (with_reducible assumption) | (with_reducible refine G.drewN ?_ _) | (with_reducible refine G.drew ?_) | (with_reducible refine G.alloc ?_ _) | (with_reducible refine G.setCell ?_ (by first | (with_reducible exact Nat.le_refl _) | (simp; done) | (simp; omega) | omega) _) | (with_reducible refine G.trans ?_ (by assumption))))
  clear hG1
  go_wp2_with fail
  refine (known_any _ (HT.out.later (by (repeat' (first | (with_reducible exact G.refl _) | (with_reducible assumption) | (with_reducible refine G.drewN ?_ _) | (with_reducible refine G.drew ?_) | (with_reducible refine G.alloc ?_ _) | (with_reducible refine G.setCell ?_ (by first | (with_reducible exact Nat.le_refl _) | (simp; done) | (simp; omega) | omega) _) | (with_reducible refine G.trans ?_ (by assumption))))))).mono ?_
  rintro e w2 ⟨rfl, hG2⟩
  go_wp2_with fail
  refine (Scale_any f false 4 _ (by decide) (by decide) (HT.out.later (by (repeat' (first | (with_reducible exact G.refl _) | (with_reducible assumption) | (with_reducible refine G.drewN ?_ _) | (with_reducible refine G.drew ?_) | (with_reducible refine G.alloc ?_ _) | (with_reducible refine G.setCell ?_ (by first | (with_reducible exact Nat.le_refl _) | (simp; done) | (simp; omega) | omega) _) | (with_reducible refine G.trans ?_ (by assumption))))))).mono ?_
  rintro e w3 ⟨v3, rfl, hA3⟩
  have hG3 := hA3.2
  rw [(sc4 HS.out).1] at hA3
  rw [(sc4 HS.out).2]
  rcases own_cells hA3.1 with ⟨_, q⟩ | ⟨g3, cap3, rfl, _, hcap3, hcap3', hc3⟩
  · have := congrArg List.length q; rw [scL_len] at this; cases this
  rw [scL_len] at hcap3 ⊢
  have HC3 := Lib.hid (show ∀ k, k < 7 → w3.cell? ⟨g3, 3 * k, none⟩ = some (.int .i64 (p k).1) ∧ w3.cell? ⟨g3, 3 * k + 1, none⟩ = some (.int .i64 (p k).2.1) ∧ w3.cell? ⟨g3, 3 * k + 2, none⟩ = some (.int .i64 (p k).2.2) from fun k hk => hc3 k _ (HGp.out k hk))
  clear hA3 hc3
  have gw3 : G w1 w3 := hG2.trans hG3
  replace y0 := gw3.at y0
  replace y1 := gw3.at y1
  clear hG2 hG3
  have gw3' := gw1.trans gw3
  go_wp2_with fail
  refine (Scale_any n false 4 _ (by decide) (by decide) (HT.out.later (by (repeat' (first | (with_reducible exact G.refl _) | (with_reducible assumption) | (with_reducible refine G.drewN ?_ _) | (with_reducible refine G.drew ?_) | (with_reducible refine G.alloc ?_ _) | (with_reducible refine G.setCell ?_ (by first | (with_reducible exact Nat.le_refl _) | (simp; done) | (simp; omega) | omega) _) | (with_reducible refine G.trans ?_ (by assumption))))))).mono ?_
  rintro e w4 ⟨v4, rfl, hA4⟩
  have hG4 := hA4.2
  rw [(sc4 HN.out).1] at hA4
  rw [(sc4 HN.out).2]
  rcases own_cells hA4.1 with ⟨_, q⟩ | ⟨g4, cap4, rfl, _, hcap4, hcap4', hc4⟩
  · have := congrArg List.length q; rw [scL_len] at this; cases this
  rw [scL_len] at hcap4 ⊢
  have HC4 := Lib.hid (show ∀ k, k < 7 → w4.cell? ⟨g4, 3 * k, none⟩ = some (.int .i64 (r k).1) ∧ w4.cell? ⟨g4, 3 * k + 1, none⟩ = some (.int .i64 (r k).2.1) ∧ w4.cell? ⟨g4, 3 * k + 2, none⟩ = some (.int .i64 (r k).2.2) from fun k hk => hc4 k _ (HGr.out k hk))
  replace y0 := hG4.at y0
  replace y1 := hG4.at y1
  have gw4 := gw3'.trans hG4
  clear hA4 hc4
  go_wp2_with fail
  go_loopg [12] 7 (fun g x wr => ∃ k : Nat, x = .int .i64 k ∧ g = 7 - k ∧ k ≤ 7 ∧ G w4 wr)
  case atStart => exact ⟨0, rfl, rfl, by omega, G.refl _⟩
  case round =>
    obtain ⟨k, rfl, hg, hk, hG5⟩ := hrel
    have HGK := Lib.hid hg
    clear hg
    by_cases k7 : k = 7
    · subst k7
      go_wp2_with fail
      go_ret
      exact ⟨rfl, gw4.trans hG5⟩
    · have h7 : k < 7 := by omega
      obtain ⟨c0, c1, c2⟩ := HC3.out k h7
      obtain ⟨d0, d1, d2⟩ := HC4.out k h7
      have g35 := hG4.trans hG5
      replace c0 := g35.at c0
      replace c1 := g35.at c1
      replace c2 := g35.at c2
      replace d0 := hG5.at d0
      replace d1 := hG5.at d1
      replace d2 := hG5.at d2
      have e0 := hG5.at y0
      have e1 := hG5.at y1
      have HB0 := Lib.hid (HBp.out k h7)
      have HB1 := Lib.hid (HBr.out k h7)
      have b0 := nb_bd HB0.out
      have b1 := nb_bd HB1.out
      have hm := HM.out k h7
      generalize p k = pk at *
      generalize r k = pl at *
      obtain ⟨p1, p2, p3⟩ := pk
      obtain ⟨r1, r2, r3⟩ := pl
      obtain ⟨n0, hn0⟩ : ∃ z : Int, Hid (z = nb (p1, p2, p3)) := ⟨_, rfl⟩
      obtain ⟨n1, hn1⟩ : ∃ z : Int, Hid (z = nb (r1, r2, r3)) := ⟨_, rfl⟩
      rw [← hn0.out] at b0
      rw [← hn1.out] at b1
      rw [← hn0.out, ← hn1.out] at hm
      dsimp only at c0 c1 c2 d0 d1 d2
      rw [Nat.mul_comm] at c0 c1 c2 d0 d1 d2
      have q := IntWalk.i64_in ((k : Int) + 1) (by omega)
      have q2 := IntWalk.i64_in (n1 - n0) (by omega)
      have q3 := IntWalk.i64_in (n1 - n0 - t) (by omega)
      have q4 : (n1 - n0 - t).tmod 12 = 0 := Int.tmod_eq_zero_of_dvd (by omega)
      have l1 : (k : Int) < 7 := by omega
      have l2 : (0 : Int) ≤ (k : Int) := by omega
      have hG7 := G.refl wr
      clear hm b0 b1
      go_wp2_with fail
      go_region_held3 (fun w' => ((w'.cell? ⟨g3, k * 3, none⟩ = some (.int .i64 p1) ∧ w'.cell? ⟨g3, k * 3 + 1, none⟩ = some (.int .i64 p2) ∧ w'.cell? ⟨g3, k * 3 + 2, none⟩ = some (.int .i64 p3)) ∧ w'.cell? ⟨g4, k * 3, none⟩ = some (.int .i64 r1) ∧ w'.cell? ⟨g4, k * 3 + 1, none⟩ = some (.int .i64 r2) ∧ w'.cell? ⟨g4, k * 3 + 2, none⟩ = some (.int .i64 r3)) ∧ w'.cell? ⟨w.heap.size, 0, none⟩ = some (.int .i64 s) ∧ w'.cell? ⟨w.heap.size, 1, none⟩ = some (.int .i64 t))
        (first | (with_reducible assumption) | ((try dsimp only); (repeat' (with_reducible apply And.intro)) <;> go_simp))
        (first | (go_at_call 27; refine (rNumber_any _ _ _ _ (by first | exact HB1.out | exact HB0.out)).mono ?_; rintro e w6 ⟨rfl, hG8⟩; (first | rw [← hn1.out] | rw [← hn0.out]); have gq := hG7.trans (G.trans (by (repeat' (first | (with_reducible exact G.refl _) | (with_reducible refine G.drewN ?_ _) | (with_reducible refine G.drew ?_) | (with_reducible refine G.alloc ?_ _)))) hG8); clear hG7; have hG7 := gq; have u0 := gq.at c0; have u1 := gq.at c1; have u2 := gq.at c2; have v0 := gq.at d0; have v1 := gq.at d1; have v2 := gq.at d2; have x0 := gq.at e0; have x1 := gq.at e1))
      all_goals
        go_wp2_with fail
        go_roundg (7 - (k + 1))
        case measure => have := HGK.out; omega
        case rel => exact ⟨k + 1, by go_num, rfl, by omega, hG5.trans hG7⟩

theorem sounds_walk (u s t : Int) (w : World) (bl : 0 ≤ u) (bh : u ≤ 255) (_ : -9223372036854775808 ≤ s) (_ : s ≤ 9223372036854775807) (_ : -9223372036854775808 ≤ t) (_ : t ≤ 9223372036854775807) (hT : Tab w) :
    Calls Tryd.prog 9 #[.int .u8 u, .agg #[.int .i64 s, .int .i64 t]] w fun e w' => e = .returned (.bool true) ∧ G w w' := by
  by_cases hi : Iv s t
  · exact sounds_ok u _ s t w bl bh rfl hi hT
  · exact sounds_iv u s t w bl bh hi hT

/-! ### the row and the card -/
open Go.ChangeShapes Go.WideShapes Go.ChangeAt Go.RowKit
set_option maxRecDepth 100000 in
theorem keySounds_lifted (os : Os) (started : os.Started) (H : Type) (enc : TypeId × Value → H) :
    ReturnsInHanded {} Tryd.checked os 9 .any (fun w args => (Rows.keySoundsSpec.pre enc Tryd.prog Tryd.f9 [] false w args ∧ laidMetH Tryd.prog laidL w) ∧ sizedMet enc Tryd.prog Tryd.f9 (OpenSpec.ofChange Rows.keySoundsSpec) false w args)
      (Rows.keySoundsSpec.post enc Tryd.prog Tryd.f9 false true false false) := by
  refine returnsInHanded_of_change_and (C := Tryd.checked) (X := fun w _ => laidMetH Tryd.prog laidL w) (fun _ _ _ hh h => h.of_heap hh) own started (by kernel_rfl) Tryd.func9
    (ChangeSpec.witness_shaped (enc := enc) (C := Tryd.checked) (os := os) (X := fun w _ => laidMetH Tryd.prog laidL w) false (World.laidAll Tryd.prog os laidL) #[.int .u8 0, .agg #[.int .i64 0, .int .i64 0]] 8 (World.laidAll_os _ _ _) (shapedL os) (by kernel_rfl) (by kernel_rfl) (by kernel_rfl) (laid_met os _)) ?_
  intro W base args ds gs before hval0 hW _ _ hL _
  have hval : ∀ (j : Nat) t v, Tryd.f9.params[j]? = some t → args[j]? = some v → Value.okWide Tryd.prog W .any base t v := hval0
  have hW' := hW
  obtain ⟨p, q, hA0, hV, rfl, hfz, hnd⟩ := hW
  have hA : DataW.TrodAll enc Tryd.prog W 0 (fun _ => true) true Tryd.f9.params.toList args.toList ds p := hA0
  rw [Tryd.params9] at hA hval
  obtain ⟨v0, vs0, d0, ds0, p0, q0, hargs, rfl, rfl, h0, r0⟩ := trodAll_cons hA
  obtain ⟨v1, vs1, d1, ds1, p1, q1, rfl, rfl, rfl, h1, r1⟩ := trodAll_cons r0
  obtain ⟨rfl, rfl, rfl⟩ := trodAll_nil r1
  obtain rfl : args = #[v0, v1] := by cases args; simp_all
  obtain ⟨rfl, rfl⟩ := trodVars_none hV
  obtain ⟨a0, rfl, rfl, rfl, w0⟩ := open_int Tryd.underlying5 (hval 0 5 v0 rfl rfl) h0
  obtain ⟨bl0, bh0⟩ := bounds_u8 w0
  obtain ⟨a1, b1, rfl, rfl, rfl, w1, u1⟩ := open_iv (hval 1 62 v1 rfl rfl) h1
  obtain ⟨bl1, bh1⟩ := bounds_i64 w1
  obtain ⟨cl1, ch1⟩ := bounds_i64 u1
  clear hA0 hval0
  simp only [List.append_nil] at hW'
  refine (sounds_walk a0 a1 b1 W bl0 bh0 bl1 bh1 cl1 ch1  (tab_of_laid hL)).mono fun e W' ⟨he, hg⟩ => ?_
  subst he
  exact ⟨_, rfl, _, _, _, [], [], [], hW', (trodAll_cons_mk (shut_bool Tryd.underlying4 _) trodAll_mk0), (trodAll_cons_mk (shut_int Tryd.underlying5 w0) (trodAll_cons_mk (shut_iv w1 u1) trodAll_mk0)), rfl, Below.frame hg _, fun h => by cases h⟩

theorem keySounds_holds : Rows.KeySoundsSaid :=
  OpenClaim.holds_of_wide 9 Tryd.f9 rfl rfl rfl rfl rfl rfl rfl ⟨rfl, rfl, rfl, rfl, rfl⟩ rfl rfl rfl rfl rfl (by kernel_rfl) Tryd.func9 (by kernel_rfl)
    (of_decide_eq_true (by kernel_rfl)) (by unfold Func.isWrapper; first | (rw [if_pos (by decide +kernel)]; kernel_rfl) | (rw [if_neg (by decide +kernel)]; exact ⟨rfl, rfl⟩))
    (fun os started H enc _ => keySounds_lifted os started H enc)

theorem keySounds_card : Rows.KeySoundsCardSaid :=
  Claim7.holds_tied_plain_at .later [] [.data, .data] true (true, "2117eec5325c27370f2aa61ddd4a23a865e68bbc1d9bb0ef2c27e10075a20c79") false
    keySounds_holds (fun _ h => by cases h) (by kernel_rfl) (fun _ h => by cases h) keySounds_row_tie rfl ⟨rfl, rfl⟩ (by kernel_rfl) rfl
    (fun f fn hf hfn => by
      obtain rfl : f = 9 := Option.some.inj ((show Tryd.prog.funcNamed "hemiola/hemiolalaw07.KeySounds" = some 9 by kernel_rfl).symm.trans hf) |>.symm
      obtain rfl : fn = Tryd.f9 := (Option.some.inj (Tryd.func9.symm.trans hfn)).symm
      exact ⟨by kernel_rfl, fun j t ht => by
        rw [Tryd.params9] at ht
        have hm : t ∈ [5, 62] := by simpa using Array.mem_of_getElem? ht
        have hall : ([5, 62].all fun u => !Tryd.prog.wantsStandIn u) = true := by kernel_rfl
        exact (show Tryd.prog.wantsStandIn t = false by simpa using List.all_eq_true.1 hall t hm)⟩)
    (by kernel_rfl)
#print axioms keySounds_card
end Go.Proofs.YtdiokagnpiiijaaDoor
