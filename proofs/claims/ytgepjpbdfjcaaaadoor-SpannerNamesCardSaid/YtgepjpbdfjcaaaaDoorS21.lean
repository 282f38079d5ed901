import Derived.Test.YtgepjpbdfjcaaaaDoorKnown
/-! Spanners: kinds by their names. -/
namespace Go.Proofs.YtgepjpbdfjcaaaaDoor
open Go.RowKit
attribute [local go_sem] World.cell?_alloc_some

/-- the kind with a name -/
def fk (l : List UInt8) : Int := if l = [115, 108, 117, 114] then 1 else if l = [99, 114, 101, 115, 99, 101, 110, 100, 111] then 2 else if l = [100, 105, 109, 105, 110, 117, 101, 110, 100, 111] then 3 else if l = [56, 118, 97] then 4 else if l = [56, 118, 98] then 5 else if l = [112, 101, 100, 97, 108] then 6 else if l = [116, 114, 105, 108, 108] then 7 else 0
theorem fk_0 (l : List UInt8) : l = [115, 108, 117, 114] ↔ fk l = 1 := by
  constructor
  · rintro rfl; decide
  · intro h
    unfold fk at h
    by_cases e0 : l = [115, 108, 117, 114]
    · exact e0
    · exfalso
      rw [if_neg e0] at h
      repeat' (split at h)
      all_goals omega
theorem fk_1 (l : List UInt8) : l = [99, 114, 101, 115, 99, 101, 110, 100, 111] ↔ fk l = 2 := by
  constructor
  · rintro rfl; decide
  · intro h
    by_cases e0 : l = [99, 114, 101, 115, 99, 101, 110, 100, 111]
    · exact e0
    · exfalso
      unfold fk at h
      rw [if_neg e0] at h
      repeat' (split at h)
      all_goals omega
theorem fk_2 (l : List UInt8) : l = [100, 105, 109, 105, 110, 117, 101, 110, 100, 111] ↔ fk l = 3 := by
  constructor
  · rintro rfl; decide
  · intro h
    by_cases e0 : l = [100, 105, 109, 105, 110, 117, 101, 110, 100, 111]
    · exact e0
    · exfalso
      unfold fk at h
      rw [if_neg e0] at h
      repeat' (split at h)
      all_goals omega
theorem fk_3 (l : List UInt8) : l = [56, 118, 97] ↔ fk l = 4 := by
  constructor
  · rintro rfl; decide
  · intro h
    by_cases e0 : l = [56, 118, 97]
    · exact e0
    · exfalso
      unfold fk at h
      rw [if_neg e0] at h
      repeat' (split at h)
      all_goals omega
theorem fk_4 (l : List UInt8) : l = [56, 118, 98] ↔ fk l = 5 := by
  constructor
  · rintro rfl; decide
  · intro h
    by_cases e0 : l = [56, 118, 98]
    · exact e0
    · exfalso
      unfold fk at h
      rw [if_neg e0] at h
      repeat' (split at h)
      all_goals omega
theorem fk_5 (l : List UInt8) : l = [112, 101, 100, 97, 108] ↔ fk l = 6 := by
  constructor
  · rintro rfl; decide
  · intro h
    by_cases e0 : l = [112, 101, 100, 97, 108]
    · exact e0
    · exfalso
      unfold fk at h
      rw [if_neg e0] at h
      repeat' (split at h)
      all_goals omega
theorem fk_6 (l : List UInt8) : l = [116, 114, 105, 108, 108] ↔ fk l = 7 := by
  constructor
  · rintro rfl; decide
  · intro h
    by_cases e0 : l = [116, 114, 105, 108, 108]
    · exact e0
    · exfalso
      unfold fk at h
      rw [if_neg e0] at h
      repeat' (split at h)
      all_goals omega
theorem fk_bd (l : List UInt8) : 0 ≤ fk l ∧ fk l ≤ 7 := by
  unfold fk
  repeat' split
  all_goals omega
theorem fk_none {l : List UInt8} (h : fk l = 0) : ∀ i : Int, 1 ≤ i → i ≤ 7 → ¬ fk l = i := fun i h1 _ => by omega
theorem tl_data (B : ByteArray) : B.toList = B.data.toList := ByteArray.toList_eq B
theorem bytes_eq {L : ByteArray} {l : List UInt8} (b : Bool) (h : b = true ↔ L.data.toList = l) : (l == L.toList) = b := by
  rw [tl_data]
  by_cases e : L.data.toList = l
  · rw [h.2 e, e]; simp
  · have hb : b = false := by cases b; rfl; exact absurd (h.1 rfl) e
    rw [hb]
    exact beq_false_of_ne (fun k => e k.symm)
theorem nm_beq {i : Nat} (h : i < 7) (L : ByteArray) : ((nmS ((i : Int) + 1)).toList == L.toList) = decide (fk L.data.toList = (i : Int) + 1) := by
  rw [tl_data]
  refine bytes_eq _ ?_
  rw [decide_eq_true_iff]
  rcases (by omega : i = 0 ∨ i = 1 ∨ i = 2 ∨ i = 3 ∨ i = 4 ∨ i = 5 ∨ i = 6) with rfl | rfl | rfl | rfl | rfl | rfl | rfl
  · exact (fk_0 _).symm
  · exact (fk_1 _).symm
  · exact (fk_2 _).symm
  · exact (fk_3 _).symm
  · exact (fk_4 _).symm
  · exact (fk_5 _).symm
  · exact (fk_6 _).symm
set_option maxHeartbeats 3200000 in
theorem rNames_any (w : World) : Calls Tryd.prog 35 #[] w fun e w' => ∃ g, e = .returned (.slice (some ⟨g, 0, none⟩) 7 7) ∧ Hid (∀ i : Nat, i < 7 → w'.cell? ⟨g, i, none⟩ = some (.string (nmS ((i : Int) + 1)))) ∧ G w w' := by
  go_enter Tryd.func35, Tryd.ntmps35
  go_wp2_with fail
  go_ret
  refine ⟨w.heap.size, by first | rfl | simp, Lib.hid (fun i hi => ?_), by (repeat' (first | (with_reducible exact G.refl _) | (with_reducible assumption) | (with_reducible refine G.drewN ?_ _) | (with_reducible refine G.drew ?_) | (with_reducible refine G.alloc ?_ _) | (with_reducible refine G.setCell ?_ (by first | (with_reducible exact Nat.le_refl _) | (simp; done) | (simp; omega) | omega) _) | (with_reducible refine G.trans ?_ (by assumption))))⟩
  rcases (by omega : i = 0 ∨ i = 1 ∨ i = 2 ∨ i = 3 ∨ i = 4 ∨ i = 5 ∨ i = 6) with rfl | rfl | rfl | rfl | rfl | rfl | rfl <;> (rw [World.cell?_alloc_new]; rfl)
theorem ix_0 (w : World) : (Instr.index 95 (.agg #[.string ⟨#[]⟩, .string ⟨#[115, 108, 117, 114]⟩, .string ⟨#[99, 114, 101, 115, 99, 101, 110, 100, 111]⟩, .string ⟨#[100, 105, 109, 105, 110, 117, 101, 110, 100, 111]⟩, .string ⟨#[56, 118, 97]⟩, .string ⟨#[56, 118, 98]⟩, .string ⟨#[112, 101, 100, 97, 108]⟩, .string ⟨#[116, 114, 105, 108, 108]⟩]) (.int .i64 0)).run Tryd.prog w = .ok (.string ⟨#[]⟩) w := by
  simp [Instr.index, run_underlying Tryd.underlying95, asIntOf, go_sem]
theorem ix_1 (w : World) : (Instr.index 95 (.agg #[.string ⟨#[]⟩, .string ⟨#[115, 108, 117, 114]⟩, .string ⟨#[99, 114, 101, 115, 99, 101, 110, 100, 111]⟩, .string ⟨#[100, 105, 109, 105, 110, 117, 101, 110, 100, 111]⟩, .string ⟨#[56, 118, 97]⟩, .string ⟨#[56, 118, 98]⟩, .string ⟨#[112, 101, 100, 97, 108]⟩, .string ⟨#[116, 114, 105, 108, 108]⟩]) (.int .i64 1)).run Tryd.prog w = .ok (.string ⟨#[115, 108, 117, 114]⟩) w := by
  simp [Instr.index, run_underlying Tryd.underlying95, asIntOf, go_sem]
theorem ix_2 (w : World) : (Instr.index 95 (.agg #[.string ⟨#[]⟩, .string ⟨#[115, 108, 117, 114]⟩, .string ⟨#[99, 114, 101, 115, 99, 101, 110, 100, 111]⟩, .string ⟨#[100, 105, 109, 105, 110, 117, 101, 110, 100, 111]⟩, .string ⟨#[56, 118, 97]⟩, .string ⟨#[56, 118, 98]⟩, .string ⟨#[112, 101, 100, 97, 108]⟩, .string ⟨#[116, 114, 105, 108, 108]⟩]) (.int .i64 2)).run Tryd.prog w = .ok (.string ⟨#[99, 114, 101, 115, 99, 101, 110, 100, 111]⟩) w := by
  simp [Instr.index, run_underlying Tryd.underlying95, asIntOf, go_sem]
theorem ix_3 (w : World) : (Instr.index 95 (.agg #[.string ⟨#[]⟩, .string ⟨#[115, 108, 117, 114]⟩, .string ⟨#[99, 114, 101, 115, 99, 101, 110, 100, 111]⟩, .string ⟨#[100, 105, 109, 105, 110, 117, 101, 110, 100, 111]⟩, .string ⟨#[56, 118, 97]⟩, .string ⟨#[56, 118, 98]⟩, .string ⟨#[112, 101, 100, 97, 108]⟩, .string ⟨#[116, 114, 105, 108, 108]⟩]) (.int .i64 3)).run Tryd.prog w = .ok (.string ⟨#[100, 105, 109, 105, 110, 117, 101, 110, 100, 111]⟩) w := by
  simp [Instr.index, run_underlying Tryd.underlying95, asIntOf, go_sem]
theorem ix_4 (w : World) : (Instr.index 95 (.agg #[.string ⟨#[]⟩, .string ⟨#[115, 108, 117, 114]⟩, .string ⟨#[99, 114, 101, 115, 99, 101, 110, 100, 111]⟩, .string ⟨#[100, 105, 109, 105, 110, 117, 101, 110, 100, 111]⟩, .string ⟨#[56, 118, 97]⟩, .string ⟨#[56, 118, 98]⟩, .string ⟨#[112, 101, 100, 97, 108]⟩, .string ⟨#[116, 114, 105, 108, 108]⟩]) (.int .i64 4)).run Tryd.prog w = .ok (.string ⟨#[56, 118, 97]⟩) w := by
  simp [Instr.index, run_underlying Tryd.underlying95, asIntOf, go_sem]
theorem ix_5 (w : World) : (Instr.index 95 (.agg #[.string ⟨#[]⟩, .string ⟨#[115, 108, 117, 114]⟩, .string ⟨#[99, 114, 101, 115, 99, 101, 110, 100, 111]⟩, .string ⟨#[100, 105, 109, 105, 110, 117, 101, 110, 100, 111]⟩, .string ⟨#[56, 118, 97]⟩, .string ⟨#[56, 118, 98]⟩, .string ⟨#[112, 101, 100, 97, 108]⟩, .string ⟨#[116, 114, 105, 108, 108]⟩]) (.int .i64 5)).run Tryd.prog w = .ok (.string ⟨#[56, 118, 98]⟩) w := by
  simp [Instr.index, run_underlying Tryd.underlying95, asIntOf, go_sem]
theorem ix_6 (w : World) : (Instr.index 95 (.agg #[.string ⟨#[]⟩, .string ⟨#[115, 108, 117, 114]⟩, .string ⟨#[99, 114, 101, 115, 99, 101, 110, 100, 111]⟩, .string ⟨#[100, 105, 109, 105, 110, 117, 101, 110, 100, 111]⟩, .string ⟨#[56, 118, 97]⟩, .string ⟨#[56, 118, 98]⟩, .string ⟨#[112, 101, 100, 97, 108]⟩, .string ⟨#[116, 114, 105, 108, 108]⟩]) (.int .i64 6)).run Tryd.prog w = .ok (.string ⟨#[112, 101, 100, 97, 108]⟩) w := by
  simp [Instr.index, run_underlying Tryd.underlying95, asIntOf, go_sem]
theorem ix_7 (w : World) : (Instr.index 95 (.agg #[.string ⟨#[]⟩, .string ⟨#[115, 108, 117, 114]⟩, .string ⟨#[99, 114, 101, 115, 99, 101, 110, 100, 111]⟩, .string ⟨#[100, 105, 109, 105, 110, 117, 101, 110, 100, 111]⟩, .string ⟨#[56, 118, 97]⟩, .string ⟨#[56, 118, 98]⟩, .string ⟨#[112, 101, 100, 97, 108]⟩, .string ⟨#[116, 114, 105, 108, 108]⟩]) (.int .i64 7)).run Tryd.prog w = .ok (.string ⟨#[116, 114, 105, 108, 108]⟩) w := by
  simp [Instr.index, run_underlying Tryd.underlying95, asIntOf, go_sem]
set_option maxRecDepth 100000 in
set_option maxHeartbeats 6400000 in
theorem sParse_any (L : ByteArray) (w : World) (hT : Tab w) : Calls Tryd.prog 36 #[.string L] w fun e w' => e = .returned (.tuple #[.int .i64 (fk L.data.toList), .int .i64 (if fk L.data.toList = 0 then 32 else 0)]) ∧ G w w' := by
  have rb := fk_bd L.data.toList
  have k0 := Lib.hid (fk_0 L.data.toList)
  have k1 := Lib.hid (fk_1 L.data.toList)
  have k2 := Lib.hid (fk_2 L.data.toList)
  have k3 := Lib.hid (fk_3 L.data.toList)
  have k4 := Lib.hid (fk_4 L.data.toList)
  have k5 := Lib.hid (fk_5 L.data.toList)
  have k6 := Lib.hid (fk_6 L.data.toList)
  obtain ⟨R, hR⟩ : ∃ z : Int, Hid (z = fk L.data.toList) := ⟨_, rfl⟩
  rw [← hR.out] at k0 k1 k2 k3 k4 k5 k6 rb ⊢
  obtain ⟨S, hS⟩ : ∃ z : Int, Hid (z = if R = 0 then 32 else 0) := ⟨_, rfl⟩
  rw [← hS.out]
  have RB := Lib.hid rb
  obtain ⟨t0, t1, t2, t3, t4, t5, t6, t7⟩ := hT
  clear rb
  go_enter Tryd.func36, Tryd.ntmps36
  go_wp2_with fail
  go_loopg [7] 8 (fun g x wr => ∃ n : Nat, x = .int .i64 n ∧ g = 8 - n ∧ n ≤ 8 ∧ Hid (R = 0 ∨ (n : Int) ≤ R) ∧ w = wr)
  case atStart => exact ⟨0, rfl, rfl, by omega, Lib.hid (by have := RB.out; omega), rfl⟩
  case round =>
    obtain ⟨n, rfl, hg, hn, hN, rfl⟩ := hrel
    have HG := Lib.hid hg
    clear hg
    rcases (by omega : n = 0 ∨ n = 1 ∨ n = 2 ∨ n = 3 ∨ n = 4 ∨ n = 5 ∨ n = 6 ∨ n = 7 ∨ n = 8) with rfl | rfl | rfl | rfl | rfl | rfl | rfl | rfl | rfl
    · have hix := ix_0
      go_wp2_with fail
      refine (isKind_any _ _).mono ?_
      rintro e w1 ⟨rfl, rfl⟩
      rw [show decide (Kd 0) = false from rfl]
      go_wp2_with fail
      go_roundg 7
      case measure => have := HG.out; omega
      case rel => exact ⟨1, rfl, rfl, by omega, Lib.hid (by have := RB.out; omega), rfl⟩
    · have hix := ix_1
      by_cases c : R = 1
      · have hb : (([115, 108, 117, 114] : List UInt8) == L.toList) = true := bytes_eq (l := [115, 108, 117, 114]) true ⟨fun _ => k0.out.2 c, fun _ => rfl⟩
        have HC := Lib.hid c
        clear c
        go_wp2_with fail
        refine (isKind_any _ _).mono ?_
        rintro e w1 ⟨rfl, rfl⟩
        rw [show decide (Kd 1) = true from rfl]
        go_wp2_with fail
        go_returns
        exact ⟨by rw [hS.out, HC.out]; rfl, by (repeat' (first | (with_reducible exact G.refl _) | (with_reducible assumption) | (with_reducible refine G.drewN ?_ _) | (with_reducible refine G.drew ?_) | (with_reducible refine G.alloc ?_ _) | (with_reducible refine G.setCell ?_ (by first | (with_reducible exact Nat.le_refl _) | (simp; done) | (simp; omega) | omega) _) | (with_reducible refine G.trans ?_ (by assumption))))⟩
      · have hb : (([115, 108, 117, 114] : List UInt8) == L.toList) = false := bytes_eq (l := [115, 108, 117, 114]) false ⟨(fun h => by cases h), fun h => absurd (k0.out.1 h) c⟩
        have HC := Lib.hid c
        clear c
        go_wp2_with fail
        refine (isKind_any _ _).mono ?_
        rintro e w1 ⟨rfl, rfl⟩
        rw [show decide (Kd 1) = true from rfl]
        go_wp2_with fail
        go_roundg 6
        case measure => have := HG.out; omega
        case rel => exact ⟨2, rfl, rfl, by omega, Lib.hid (by have := HC.out; have := hN.out; omega), rfl⟩
    · have hix := ix_2
      by_cases c : R = 2
      · have hb : (([99, 114, 101, 115, 99, 101, 110, 100, 111] : List UInt8) == L.toList) = true := bytes_eq (l := [99, 114, 101, 115, 99, 101, 110, 100, 111]) true ⟨fun _ => k1.out.2 c, fun _ => rfl⟩
        have HC := Lib.hid c
        clear c
        go_wp2_with fail
        refine (isKind_any _ _).mono ?_
        rintro e w1 ⟨rfl, rfl⟩
        rw [show decide (Kd 2) = true from rfl]
        go_wp2_with fail
        go_returns
        exact ⟨by rw [hS.out, HC.out]; rfl, by (repeat' (first | (with_reducible exact G.refl _) | (with_reducible assumption) | (with_reducible refine G.drewN ?_ _) | (with_reducible refine G.drew ?_) | (with_reducible refine G.alloc ?_ _) | (with_reducible refine G.setCell ?_ (by first | (with_reducible exact Nat.le_refl _) | (simp; done) | (simp; omega) | omega) _) | (with_reducible refine G.trans ?_ (by assumption))))⟩
      · have hb : (([99, 114, 101, 115, 99, 101, 110, 100, 111] : List UInt8) == L.toList) = false := bytes_eq (l := [99, 114, 101, 115, 99, 101, 110, 100, 111]) false ⟨(fun h => by cases h), fun h => absurd (k1.out.1 h) c⟩
        have HC := Lib.hid c
        clear c
        go_wp2_with fail
        refine (isKind_any _ _).mono ?_
        rintro e w1 ⟨rfl, rfl⟩
        rw [show decide (Kd 2) = true from rfl]
        go_wp2_with fail
        go_roundg 5
        case measure => have := HG.out; omega
        case rel => exact ⟨3, rfl, rfl, by omega, Lib.hid (by have := HC.out; have := hN.out; omega), rfl⟩
    · have hix := ix_3
      by_cases c : R = 3
      · have hb : (([100, 105, 109, 105, 110, 117, 101, 110, 100, 111] : List UInt8) == L.toList) = true := bytes_eq (l := [100, 105, 109, 105, 110, 117, 101, 110, 100, 111]) true ⟨fun _ => k2.out.2 c, fun _ => rfl⟩
        have HC := Lib.hid c
        clear c
        go_wp2_with fail
        refine (isKind_any _ _).mono ?_
        rintro e w1 ⟨rfl, rfl⟩
        rw [show decide (Kd 3) = true from rfl]
        go_wp2_with fail
        go_returns
        exact ⟨by rw [hS.out, HC.out]; rfl, by (repeat' (first | (with_reducible exact G.refl _) | (with_reducible assumption) | (with_reducible refine G.drewN ?_ _) | (with_reducible refine G.drew ?_) | (with_reducible refine G.alloc ?_ _) | (with_reducible refine G.setCell ?_ (by first | (with_reducible exact Nat.le_refl _) | (simp; done) | (simp; omega) | omega) _) | (with_reducible refine G.trans ?_ (by assumption))))⟩
      · have hb : (([100, 105, 109, 105, 110, 117, 101, 110, 100, 111] : List UInt8) == L.toList) = false := bytes_eq (l := [100, 105, 109, 105, 110, 117, 101, 110, 100, 111]) false ⟨(fun h => by cases h), fun h => absurd (k2.out.1 h) c⟩
        have HC := Lib.hid c
        clear c
        go_wp2_with fail
        refine (isKind_any _ _).mono ?_
        rintro e w1 ⟨rfl, rfl⟩
        rw [show decide (Kd 3) = true from rfl]
        go_wp2_with fail
        go_roundg 4
        case measure => have := HG.out; omega
        case rel => exact ⟨4, rfl, rfl, by omega, Lib.hid (by have := HC.out; have := hN.out; omega), rfl⟩
    · have hix := ix_4
      by_cases c : R = 4
      · have hb : (([56, 118, 97] : List UInt8) == L.toList) = true := bytes_eq (l := [56, 118, 97]) true ⟨fun _ => k3.out.2 c, fun _ => rfl⟩
        have HC := Lib.hid c
        clear c
        go_wp2_with fail
        refine (isKind_any _ _).mono ?_
        rintro e w1 ⟨rfl, rfl⟩
        rw [show decide (Kd 4) = true from rfl]
        go_wp2_with fail
        go_returns
        exact ⟨by rw [hS.out, HC.out]; rfl, by (repeat' (first | (with_reducible exact G.refl _) | (with_reducible assumption) | (with_reducible refine G.drewN ?_ _) | (with_reducible refine G.drew ?_) | (with_reducible refine G.alloc ?_ _) | (with_reducible refine G.setCell ?_ (by first | (with_reducible exact Nat.le_refl _) | (simp; done) | (simp; omega) | omega) _) | (with_reducible refine G.trans ?_ (by assumption))))⟩
      · have hb : (([56, 118, 97] : List UInt8) == L.toList) = false := bytes_eq (l := [56, 118, 97]) false ⟨(fun h => by cases h), fun h => absurd (k3.out.1 h) c⟩
        have HC := Lib.hid c
        clear c
        go_wp2_with fail
        refine (isKind_any _ _).mono ?_
        rintro e w1 ⟨rfl, rfl⟩
        rw [show decide (Kd 4) = true from rfl]
        go_wp2_with fail
        go_roundg 3
        case measure => have := HG.out; omega
        case rel => exact ⟨5, rfl, rfl, by omega, Lib.hid (by have := HC.out; have := hN.out; omega), rfl⟩
    · have hix := ix_5
      by_cases c : R = 5
      · have hb : (([56, 118, 98] : List UInt8) == L.toList) = true := bytes_eq (l := [56, 118, 98]) true ⟨fun _ => k4.out.2 c, fun _ => rfl⟩
        have HC := Lib.hid c
        clear c
        go_wp2_with fail
        refine (isKind_any _ _).mono ?_
        rintro e w1 ⟨rfl, rfl⟩
        rw [show decide (Kd 5) = true from rfl]
        go_wp2_with fail
        go_returns
        exact ⟨by rw [hS.out, HC.out]; rfl, by (repeat' (first | (with_reducible exact G.refl _) | (with_reducible assumption) | (with_reducible refine G.drewN ?_ _) | (with_reducible refine G.drew ?_) | (with_reducible refine G.alloc ?_ _) | (with_reducible refine G.setCell ?_ (by first | (with_reducible exact Nat.le_refl _) | (simp; done) | (simp; omega) | omega) _) | (with_reducible refine G.trans ?_ (by assumption))))⟩
      · have hb : (([56, 118, 98] : List UInt8) == L.toList) = false := bytes_eq (l := [56, 118, 98]) false ⟨(fun h => by cases h), fun h => absurd (k4.out.1 h) c⟩
        have HC := Lib.hid c
        clear c
        go_wp2_with fail
        refine (isKind_any _ _).mono ?_
        rintro e w1 ⟨rfl, rfl⟩
        rw [show decide (Kd 5) = true from rfl]
        go_wp2_with fail
        go_roundg 2
        case measure => have := HG.out; omega
        case rel => exact ⟨6, rfl, rfl, by omega, Lib.hid (by have := HC.out; have := hN.out; omega), rfl⟩
    · have hix := ix_6
      by_cases c : R = 6
      · have hb : (([112, 101, 100, 97, 108] : List UInt8) == L.toList) = true := bytes_eq (l := [112, 101, 100, 97, 108]) true ⟨fun _ => k5.out.2 c, fun _ => rfl⟩
        have HC := Lib.hid c
        clear c
        go_wp2_with fail
        refine (isKind_any _ _).mono ?_
        rintro e w1 ⟨rfl, rfl⟩
        rw [show decide (Kd 6) = true from rfl]
        go_wp2_with fail
        go_returns
        exact ⟨by rw [hS.out, HC.out]; rfl, by (repeat' (first | (with_reducible exact G.refl _) | (with_reducible assumption) | (with_reducible refine G.drewN ?_ _) | (with_reducible refine G.drew ?_) | (with_reducible refine G.alloc ?_ _) | (with_reducible refine G.setCell ?_ (by first | (with_reducible exact Nat.le_refl _) | (simp; done) | (simp; omega) | omega) _) | (with_reducible refine G.trans ?_ (by assumption))))⟩
      · have hb : (([112, 101, 100, 97, 108] : List UInt8) == L.toList) = false := bytes_eq (l := [112, 101, 100, 97, 108]) false ⟨(fun h => by cases h), fun h => absurd (k5.out.1 h) c⟩
        have HC := Lib.hid c
        clear c
        go_wp2_with fail
        refine (isKind_any _ _).mono ?_
        rintro e w1 ⟨rfl, rfl⟩
        rw [show decide (Kd 6) = true from rfl]
        go_wp2_with fail
        go_roundg 1
        case measure => have := HG.out; omega
        case rel => exact ⟨7, rfl, rfl, by omega, Lib.hid (by have := HC.out; have := hN.out; omega), rfl⟩
    · have hix := ix_7
      by_cases c : R = 7
      · have hb : (([116, 114, 105, 108, 108] : List UInt8) == L.toList) = true := bytes_eq (l := [116, 114, 105, 108, 108]) true ⟨fun _ => k6.out.2 c, fun _ => rfl⟩
        have HC := Lib.hid c
        clear c
        go_wp2_with fail
        refine (isKind_any _ _).mono ?_
        rintro e w1 ⟨rfl, rfl⟩
        rw [show decide (Kd 7) = true from rfl]
        go_wp2_with fail
        go_returns
        exact ⟨by rw [hS.out, HC.out]; rfl, by (repeat' (first | (with_reducible exact G.refl _) | (with_reducible assumption) | (with_reducible refine G.drewN ?_ _) | (with_reducible refine G.drew ?_) | (with_reducible refine G.alloc ?_ _) | (with_reducible refine G.setCell ?_ (by first | (with_reducible exact Nat.le_refl _) | (simp; done) | (simp; omega) | omega) _) | (with_reducible refine G.trans ?_ (by assumption))))⟩
      · have hb : (([116, 114, 105, 108, 108] : List UInt8) == L.toList) = false := bytes_eq (l := [116, 114, 105, 108, 108]) false ⟨(fun h => by cases h), fun h => absurd (k6.out.1 h) c⟩
        have HC := Lib.hid c
        clear c
        go_wp2_with fail
        refine (isKind_any _ _).mono ?_
        rintro e w1 ⟨rfl, rfl⟩
        rw [show decide (Kd 7) = true from rfl]
        go_wp2_with fail
        go_roundg 0
        case measure => have := HG.out; omega
        case rel => exact ⟨8, rfl, rfl, by omega, Lib.hid (by have := HC.out; have := hN.out; omega), rfl⟩
    · have HR := Lib.hid (show R = 0 by have := hN.out; have := RB.out; omega)
      go_wp2_with fail
      go_returns
      exact ⟨by rw [hS.out, HR.out]; rfl, by (repeat' (first | (with_reducible exact G.refl _) | (with_reducible assumption) | (with_reducible refine G.drewN ?_ _) | (with_reducible refine G.drew ?_) | (with_reducible refine G.alloc ?_ _) | (with_reducible refine G.setCell ?_ (by first | (with_reducible exact Nat.le_refl _) | (simp; done) | (simp; omega) | omega) _) | (with_reducible refine G.trans ?_ (by assumption))))⟩
end Go.Proofs.YtgepjpbdfjcaaaaDoor
