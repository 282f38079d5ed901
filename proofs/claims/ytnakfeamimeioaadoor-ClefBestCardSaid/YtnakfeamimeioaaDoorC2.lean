import Derived.Test.YtnakfeamimeioaaDoorC1
/-! Clefs: Position, At, place. -/
namespace Go.Proofs.YtnakfeamimeioaaDoor
open Go.RowKit
attribute [local go_sem] World.cell?_alloc_some

/-- the cells of a design, in a later world -/
theorem sev_later {w w1 : World} {a b c d e f g : Value} {t : TypeId} (h : G (w.alloc (.cells #[a, b, c, d, e, f, g] t)) w1) :
    w1.cell? ⟨w.heap.size, 0, none⟩ = some a ∧ w1.cell? ⟨w.heap.size, 1, none⟩ = some b ∧ w1.cell? ⟨w.heap.size, 2, none⟩ = some c ∧ w1.cell? ⟨w.heap.size, 3, none⟩ = some d ∧ w1.cell? ⟨w.heap.size, 4, none⟩ = some e ∧ w1.cell? ⟨w.heap.size, 5, none⟩ = some f ∧ w1.cell? ⟨w.heap.size, 6, none⟩ = some g := by
  refine ⟨?_, ?_, ?_, ?_, ?_, ?_, ?_⟩ <;> (rw [h.cell (by simp)]; go_cell)

/-- what Position answers -/
def poE (c s a o : Int) : Int := if Cf c then if Ok s a o then 0 else 18 else 11
def poV (c s a o : Int) : Int := if Cf c ∧ Ok s a o then 7 * o + s - mid c else 0
set_option maxRecDepth 20000 in
set_option maxHeartbeats 3200000 in
theorem cPosition_any (c s a o : Int) (w : World) (hT : Tab w) :
    Calls Tryd.prog 13 #[.int .i64 c, .agg #[.int .i64 s, .int .i64 a, .int .i64 o]] w fun e w' => e = .returned (.tuple #[.int .i64 (poV c s a o), .int .i64 (poE c s a o)]) ∧ G w w' := by
  have HT := Lib.hid hT
  clear hT
  by_cases h : Cf c
  · have HC := Lib.hid h
    have mb := mid_bd c
    obtain ⟨m, hm⟩ : ∃ z : Int, Hid (z = mid c) := ⟨_, rfl⟩
    rw [← hm.out] at mb
    by_cases k : Ok s a o
    · have HO := Lib.hid k
      have HV := Lib.hid (show poV c s a o = 7 * o + s - m ∧ poE c s a o = 0 by
        unfold poV poE; rw [if_pos ⟨h, k⟩, if_pos h, if_pos k, hm.out]; exact ⟨rfl, rfl⟩)
      rw [HV.out.1, HV.out.2]
      obtain ⟨⟨⟨s0, s1⟩, _, o0, o1⟩, _⟩ := k
      obtain ⟨d, hd⟩ : ∃ z : Int, Hid (z = 7 * o + s) := ⟨_, rfl⟩
      have db : -7 ≤ d ∧ d ≤ 69 := by rw [hd.out]; omega
      rw [← hd.out]
      have q1 := IntWalk.i64_in (d - m) (by omega)
      clear h
      go_enter Tryd.func13, Tryd.ntmps13
      go_wp2_with fail
      refine (designOf_ok c _ HC.out (HT.out.later (by (repeat' (first | (with_reducible exact G.refl _) | (with_reducible assumption) | (with_reducible refine G.drewN ?_ _) | (with_reducible refine G.drew ?_) | (with_reducible refine G.alloc ?_ _) | (with_reducible refine G.setCell ?_ (by first | (with_reducible exact Nat.le_refl _) | (simp; done) | (simp; omega) | omega) _) | (with_reducible refine G.trans ?_ (by assumption)))))).dsn).mono ?_
      rintro e w1 ⟨rfl, hG⟩
      rw [← hm.out]
      obtain ⟨y0, y1, y2⟩ := tri_later hG
      go_wp2_with fail
      refine (Diatonic_any s a o _ (HT.out.later (by (repeat' (first | (with_reducible exact G.refl _) | (with_reducible assumption) | (with_reducible refine G.drewN ?_ _) | (with_reducible refine G.drew ?_) | (with_reducible refine G.alloc ?_ _) | (with_reducible refine G.setCell ?_ (by first | (with_reducible exact Nat.le_refl _) | (simp; done) | (simp; omega) | omega) _) | (with_reducible refine G.trans ?_ (by assumption)))))).hts).mono ?_
      rintro e w2 ⟨rfl, hG2⟩
      rw [if_pos HO.out, er_ok HO.out, ← hd.out]
      obtain ⟨z0, z1, z2, z3, z4, z5, z6⟩ := sev_later hG2
      go_wp2_with fail
      go_returns
      exact ⟨rfl, by (repeat' (first | (with_reducible exact G.refl _) | (with_reducible assumption) | (with_reducible refine G.drewN ?_ _) | (with_reducible refine G.drew ?_) | (with_reducible refine G.alloc ?_ _) | (with_reducible refine G.setCell ?_ (by first | (with_reducible exact Nat.le_refl _) | (simp; done) | (simp; omega) | omega) _) | (with_reducible refine G.trans ?_ (by assumption))))⟩
    · have HO := Lib.hid k
      have HV := Lib.hid (show poV c s a o = 0 ∧ poE c s a o = 18 by
        unfold poV poE; rw [if_neg (fun z => k z.2), if_pos h, if_neg k]; exact ⟨rfl, rfl⟩)
      rw [HV.out.1, HV.out.2]
      clear h k
      go_enter Tryd.func13, Tryd.ntmps13
      go_wp2_with fail
      refine (designOf_ok c _ HC.out (HT.out.later (by (repeat' (first | (with_reducible exact G.refl _) | (with_reducible assumption) | (with_reducible refine G.drewN ?_ _) | (with_reducible refine G.drew ?_) | (with_reducible refine G.alloc ?_ _) | (with_reducible refine G.setCell ?_ (by first | (with_reducible exact Nat.le_refl _) | (simp; done) | (simp; omega) | omega) _) | (with_reducible refine G.trans ?_ (by assumption)))))).dsn).mono ?_
      rintro e w1 ⟨rfl, hG⟩
      rw [← hm.out]
      obtain ⟨y0, y1, y2⟩ := tri_later hG
      go_wp2_with fail
      refine (Diatonic_any s a o _ (HT.out.later (by (repeat' (first | (with_reducible exact G.refl _) | (with_reducible assumption) | (with_reducible refine G.drewN ?_ _) | (with_reducible refine G.drew ?_) | (with_reducible refine G.alloc ?_ _) | (with_reducible refine G.setCell ?_ (by first | (with_reducible exact Nat.le_refl _) | (simp; done) | (simp; omega) | omega) _) | (with_reducible refine G.trans ?_ (by assumption)))))).hts).mono ?_
      rintro e w2 ⟨rfl, hG2⟩
      rw [if_neg HO.out, er_bad HO.out]
      go_wp2_with fail
      go_returns
      exact ⟨rfl, by (repeat' (first | (with_reducible exact G.refl _) | (with_reducible assumption) | (with_reducible refine G.drewN ?_ _) | (with_reducible refine G.drew ?_) | (with_reducible refine G.alloc ?_ _) | (with_reducible refine G.setCell ?_ (by first | (with_reducible exact Nat.le_refl _) | (simp; done) | (simp; omega) | omega) _) | (with_reducible refine G.trans ?_ (by assumption))))⟩
  · have HC := Lib.hid h
    have HV := Lib.hid (show poV c s a o = 0 ∧ poE c s a o = 11 by
      unfold poV poE; rw [if_neg (fun z => h z.1), if_neg h]; exact ⟨rfl, rfl⟩)
    rw [HV.out.1, HV.out.2]
    clear h
    go_enter Tryd.func13, Tryd.ntmps13
    go_wp2_with fail
    refine (designOf_bad c _ HC.out).mono ?_
    rintro e w1 ⟨rfl, hG⟩
    go_wp2_with fail
    go_returns
    exact ⟨rfl, by (repeat' (first | (with_reducible exact G.refl _) | (with_reducible assumption) | (with_reducible refine G.drewN ?_ _) | (with_reducible refine G.drew ?_) | (with_reducible refine G.alloc ?_ _) | (with_reducible refine G.setCell ?_ (by first | (with_reducible exact Nat.le_refl _) | (simp; done) | (simp; omega) | omega) _) | (with_reducible refine G.trans ?_ (by assumption))))⟩

/-- what At answers: the step and the octave of a number of steps from C0; whether there is such a pitch -/
def stp (t : Int) : Int := (t + 7) % 7
def oct (t : Int) : Int := (t + 7) / 7 - 1
def hasP (t : Int) : Prop := (-7 ≤ t ∧ t ≤ 69) ∧ Ok (stp t) 0 (oct t)
instance (t : Int) : Decidable (hasP t) := by unfold hasP; infer_instance
def atE (c p : Int) : Int := if Cf c then if hasP (mid c + p) then 0 else 2 else 11
def atS (c p : Int) : Int := if Cf c ∧ hasP (mid c + p) then stp (mid c + p) else 0
def atO (c p : Int) : Int := if Cf c ∧ hasP (mid c + p) then oct (mid c + p) else 0
theorem wrap_far {m p : Int} (hm : 15 ≤ m ∧ m ≤ 34) (h0 : -9223372036854775808 ≤ p) (h1 : p ≤ 9223372036854775807) (h : m + p < -7 ∨ 69 < m + p) : IntKind.i64.wrap (m + p) < -7 ∨ 69 < IntKind.i64.wrap (m + p) := by
  by_cases k : m + p ≤ 9223372036854775807
  · rw [IntWalk.i64_in (m + p) (by omega)]; exact h
  · left
    have e : IntKind.i64.wrap (m + p) = m + p - 18446744073709551616 := by
      show (if (true && decide ((m + p) % 2 ^ 64 ≥ 2 ^ (64 - 1))) = true then (m + p) % 2 ^ 64 - 2 ^ 64 else (m + p) % 2 ^ 64) = _
      rw [if_pos (by simp; omega)]; omega
    rw [e]; omega
set_option maxRecDepth 20000 in
set_option maxHeartbeats 3200000 in
theorem cAt_any (c p : Int) (w : World) (h0 : -9223372036854775808 ≤ p) (h1 : p ≤ 9223372036854775807) (hT : Tab w) :
    Calls Tryd.prog 18 #[.int .i64 c, .int .i64 p] w fun e w' => e = .returned (.tuple #[.agg #[.int .i64 (atS c p), .int .i64 0, .int .i64 (atO c p)], .int .i64 (atE c p)]) ∧ G w w' := by
  have HT := Lib.hid hT
  clear hT
  by_cases h : Cf c
  · have HC := Lib.hid h
    have mb := mid_bd c
    obtain ⟨m, hm⟩ : ∃ z : Int, Hid (z = mid c) := ⟨_, rfl⟩
    rw [← hm.out] at mb
    by_cases k : -7 ≤ m + p ∧ m + p ≤ 69
    · obtain ⟨d, hd⟩ : ∃ z : Int, Hid (z = m + p) := ⟨_, rfl⟩
      rw [← hd.out] at k
      have q1 : IntKind.i64.wrap (m + p) = d := by rw [← hd.out]; exact IntWalk.i64_in d (by omega)
      have HK := Lib.hid k
      obtain ⟨S, hS⟩ : ∃ z : Int, Hid (z = (d + 7) % 7) := ⟨_, rfl⟩
      obtain ⟨O, hO⟩ : ∃ z : Int, Hid (z = (d + 7) / 7 - 1) := ⟨_, rfl⟩
      by_cases u : Ok S 0 O
      · have hp : hasP (mid c + p) := by rw [← hm.out, ← hd.out]; exact ⟨k, by unfold stp oct; rw [← hS.out, ← hO.out]; exact u⟩
        have HV := Lib.hid (show atS c p = S ∧ atO c p = O ∧ atE c p = 0 by
          unfold atS atO atE
          rw [if_pos ⟨h, hp⟩, if_pos ⟨h, hp⟩, if_pos h, if_pos hp, ← hm.out, ← hd.out]
          exact ⟨hS.out.symm, hO.out.symm, rfl⟩)
        rw [HV.out.1, HV.out.2.1, HV.out.2.2]
        have HU := Lib.hid u
        clear h hp k u
        go_enter Tryd.func18, Tryd.ntmps18
        go_wp2_with fail
        refine (designOf_ok c _ HC.out (HT.out.later (by (repeat' (first | (with_reducible exact G.refl _) | (with_reducible assumption) | (with_reducible refine G.drewN ?_ _) | (with_reducible refine G.drew ?_) | (with_reducible refine G.alloc ?_ _) | (with_reducible refine G.setCell ?_ (by first | (with_reducible exact Nat.le_refl _) | (simp; done) | (simp; omega) | omega) _) | (with_reducible refine G.trans ?_ (by assumption)))))).dsn).mono ?_
        rintro e w1 ⟨rfl, hG⟩
        rw [← hm.out]
        go_wp2_with fail
        refine (Of_in d 0 S O _ HK.out.1 HK.out.2 hS hO (HT.out.later (by (repeat' (first | (with_reducible exact G.refl _) | (with_reducible assumption) | (with_reducible refine G.drewN ?_ _) | (with_reducible refine G.drew ?_) | (with_reducible refine G.alloc ?_ _) | (with_reducible refine G.setCell ?_ (by first | (with_reducible exact Nat.le_refl _) | (simp; done) | (simp; omega) | omega) _) | (with_reducible refine G.trans ?_ (by assumption)))))).hts).mono ?_
        rintro e w2 ⟨rfl, hG2⟩
        rw [er_ok HU.out, ey_ok HU.out, ey_ok HU.out, ey_ok HU.out]
        have gq := (hG.trans (G.trans (by (repeat' (first | (with_reducible exact G.refl _) | (with_reducible refine G.drewN ?_ _) | (with_reducible refine G.drew ?_) | (with_reducible refine G.alloc ?_ _)))) hG2)).alloc (.cells #[.int .i64 S, .int .i64 0, .int .i64 O] 23)
        obtain ⟨⟨y0, y1, y2⟩, f0, f1, f2⟩ := trif_later gq
        go_wp2_with fail
        refine bodyPost_ret (v := .tuple #[.agg #[.int .i64 S, .int .i64 0, .int .i64 O], .int .i64 0]) (by simp only [results, Tryd.results18]; go_simp) rfl ⟨rfl, ?_⟩
        (repeat' (first | (with_reducible exact G.refl _) | (with_reducible assumption) | (with_reducible refine G.drewN ?_ _) | (with_reducible refine G.drew ?_) | (with_reducible refine G.alloc ?_ _) | (with_reducible refine G.setCell ?_ (by first | (with_reducible exact Nat.le_refl _) | (simp; done) | (simp; omega) | omega) _) | (with_reducible refine G.trans ?_ (by assumption))))
      · have hp : ¬ hasP (mid c + p) := by rw [← hm.out, ← hd.out]; intro z; have := z.2; unfold stp oct at this; rw [← hS.out, ← hO.out] at this; exact u this
        have HV := Lib.hid (show atS c p = 0 ∧ atO c p = 0 ∧ atE c p = 2 by
          unfold atS atO atE
          rw [if_neg (fun z => hp z.2), if_neg (fun z => hp z.2), if_pos h, if_neg hp]
          exact ⟨rfl, rfl, rfl⟩)
        rw [HV.out.1, HV.out.2.1, HV.out.2.2]
        have HU := Lib.hid u
        clear h hp k u
        go_enter Tryd.func18, Tryd.ntmps18
        go_wp2_with fail
        refine (designOf_ok c _ HC.out (HT.out.later (by (repeat' (first | (with_reducible exact G.refl _) | (with_reducible assumption) | (with_reducible refine G.drewN ?_ _) | (with_reducible refine G.drew ?_) | (with_reducible refine G.alloc ?_ _) | (with_reducible refine G.setCell ?_ (by first | (with_reducible exact Nat.le_refl _) | (simp; done) | (simp; omega) | omega) _) | (with_reducible refine G.trans ?_ (by assumption)))))).dsn).mono ?_
        rintro e w1 ⟨rfl, hG⟩
        rw [← hm.out]
        go_wp2_with fail
        refine (Of_in d 0 S O _ HK.out.1 HK.out.2 hS hO (HT.out.later (by (repeat' (first | (with_reducible exact G.refl _) | (with_reducible assumption) | (with_reducible refine G.drewN ?_ _) | (with_reducible refine G.drew ?_) | (with_reducible refine G.alloc ?_ _) | (with_reducible refine G.setCell ?_ (by first | (with_reducible exact Nat.le_refl _) | (simp; done) | (simp; omega) | omega) _) | (with_reducible refine G.trans ?_ (by assumption)))))).hts).mono ?_
        rintro e w2 ⟨rfl, hG2⟩
        rw [er_bad HU.out, ey_bad HU.out, ey_bad HU.out, ey_bad HU.out]
        have gq := (hG.trans (G.trans (by (repeat' (first | (with_reducible exact G.refl _) | (with_reducible refine G.drewN ?_ _) | (with_reducible refine G.drew ?_) | (with_reducible refine G.alloc ?_ _)))) hG2)).alloc (.cells #[.int .i64 0, .int .i64 0, .int .i64 0] 23)
        obtain ⟨⟨y0, y1, y2⟩, f0, f1, f2⟩ := trif_later gq
        go_wp2_with fail
        refine bodyPost_ret (v := .tuple #[.agg #[.int .i64 0, .int .i64 0, .int .i64 0], .int .i64 2]) (by simp only [results, Tryd.results18]; go_simp) rfl ⟨rfl, ?_⟩
        (repeat' (first | (with_reducible exact G.refl _) | (with_reducible assumption) | (with_reducible refine G.drewN ?_ _) | (with_reducible refine G.drew ?_) | (with_reducible refine G.alloc ?_ _) | (with_reducible refine G.setCell ?_ (by first | (with_reducible exact Nat.le_refl _) | (simp; done) | (simp; omega) | omega) _) | (with_reducible refine G.trans ?_ (by assumption))))
    · have hp : ¬ hasP (mid c + p) := by rw [← hm.out]; intro z; exact k z.1
      have HV := Lib.hid (show atS c p = 0 ∧ atO c p = 0 ∧ atE c p = 2 by
        unfold atS atO atE
        rw [if_neg (fun z => hp z.2), if_neg (fun z => hp z.2), if_pos h, if_neg hp]
        exact ⟨rfl, rfl, rfl⟩)
      rw [HV.out.1, HV.out.2.1, HV.out.2.2]
      have hw := wrap_far mb h0 h1 (by omega)
      obtain ⟨d, hd⟩ : ∃ z : Int, Hid (IntKind.i64.wrap (m + p) = z) := ⟨_, rfl⟩
      have q1 := hd.out
      rw [hd.out] at hw
      have HW := Lib.hid hw
      clear h hp k hw
      go_enter Tryd.func18, Tryd.ntmps18
      go_wp2_with fail
      refine (designOf_ok c _ HC.out (HT.out.later (by (repeat' (first | (with_reducible exact G.refl _) | (with_reducible assumption) | (with_reducible refine G.drewN ?_ _) | (with_reducible refine G.drew ?_) | (with_reducible refine G.alloc ?_ _) | (with_reducible refine G.setCell ?_ (by first | (with_reducible exact Nat.le_refl _) | (simp; done) | (simp; omega) | omega) _) | (with_reducible refine G.trans ?_ (by assumption)))))).dsn).mono ?_
      rintro e w1 ⟨rfl, hG⟩
      rw [← hm.out]
      go_wp2_with fail
      refine (Of_out d 0 _ HW.out).mono ?_
      rintro e w2 ⟨rfl, hG2⟩
      have gq := (hG.trans (G.trans (by (repeat' (first | (with_reducible exact G.refl _) | (with_reducible refine G.drewN ?_ _) | (with_reducible refine G.drew ?_) | (with_reducible refine G.alloc ?_ _)))) hG2)).alloc (.cells #[.int .i64 0, .int .i64 0, .int .i64 0] 23)
      obtain ⟨⟨y0, y1, y2⟩, f0, f1, f2⟩ := trif_later gq
      go_wp2_with fail
      refine bodyPost_ret (v := .tuple #[.agg #[.int .i64 0, .int .i64 0, .int .i64 0], .int .i64 2]) (by simp only [results, Tryd.results18]; go_simp) rfl ⟨rfl, ?_⟩
      (repeat' (first | (with_reducible exact G.refl _) | (with_reducible assumption) | (with_reducible refine G.drewN ?_ _) | (with_reducible refine G.drew ?_) | (with_reducible refine G.alloc ?_ _) | (with_reducible refine G.setCell ?_ (by first | (with_reducible exact Nat.le_refl _) | (simp; done) | (simp; omega) | omega) _) | (with_reducible refine G.trans ?_ (by assumption))))
  · have HC := Lib.hid h
    have HV := Lib.hid (show atS c p = 0 ∧ atO c p = 0 ∧ atE c p = 11 by
      unfold atS atO atE
      rw [if_neg (fun z => h z.1), if_neg (fun z => h z.1), if_neg h]
      exact ⟨rfl, rfl, rfl⟩)
    rw [HV.out.1, HV.out.2.1, HV.out.2.2]
    clear h
    go_enter Tryd.func18, Tryd.ntmps18
    go_wp2_with fail
    refine (designOf_bad c _ HC.out).mono ?_
    rintro e w1 ⟨rfl, hG⟩
    have gq := hG.alloc (.cells #[.string ⟨#[]⟩, .int .u8 0, .int .i64 0, .int .i64 0, .int .i64 0, .int .i64 0, .int .i64 0] 63)
    obtain ⟨⟨y0, y1, y2⟩, f0, f1, f2⟩ := trif_later gq
    go_wp2_with fail
    refine bodyPost_ret (v := .tuple #[.agg #[.int .i64 0, .int .i64 0, .int .i64 0], .int .i64 11]) (by simp only [results, Tryd.results18]; go_simp) rfl ⟨rfl, ?_⟩
    (repeat' (first | (with_reducible exact G.refl _) | (with_reducible assumption) | (with_reducible refine G.drewN ?_ _) | (with_reducible refine G.drew ?_) | (with_reducible refine G.alloc ?_ _) | (with_reducible refine G.setCell ?_ (by first | (with_reducible exact Nat.le_refl _) | (simp; done) | (simp; omega) | omega) _) | (with_reducible refine G.trans ?_ (by assumption))))

/-- the position of a step among the seven from the lowest one on -/
def plc (m st low : Int) : Int := low + (st - (m + low) % 7 + 7) % 7
set_option maxRecDepth 20000 in
set_option maxHeartbeats 1600000 in
theorem place_any (n : ByteArray) (a b d m f g st low : Int) (w : World) (hm : 15 ≤ m ∧ m ≤ 34) (hl : -5 ≤ low ∧ low ≤ -1) (hs : 0 ≤ st ∧ st ≤ 6) :
    Calls Tryd.prog 37 #[.agg #[.string n, .int .u8 a, .int .i64 b, .int .i64 d, .int .i64 m, .int .i64 f, .int .i64 g], .int .i64 st, .int .i64 low] w fun e w' => e = .returned (.int .i64 (plc m st low)) ∧ G w w' := by
  obtain ⟨R, hR⟩ : ∃ z : Int, Hid (z = plc m st low) := ⟨_, rfl⟩
  rw [← hR.out]
  obtain ⟨m0, m1⟩ := hm
  obtain ⟨l0, l1⟩ := hl
  obtain ⟨s0, s1⟩ := hs
  go_enter Tryd.func37, Tryd.ntmps37
  go_wp2_with fail
  go_ret
  exact ⟨ret_int (by rw [hR.out]; unfold plc; omega), by (repeat' (first | (with_reducible exact G.refl _) | (with_reducible assumption) | (with_reducible refine G.drewN ?_ _) | (with_reducible refine G.drew ?_) | (with_reducible refine G.alloc ?_ _) | (with_reducible refine G.setCell ?_ (by first | (with_reducible exact Nat.le_refl _) | (simp; done) | (simp; omega) | omega) _) | (with_reducible refine G.trans ?_ (by assumption))))⟩
end Go.Proofs.YtnakfeamimeioaaDoor
