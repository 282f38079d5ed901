import Derived.Test.YtnakfeamimeioaaDoorC4
import Derived.BigRegion
import Derived.Deep.MidRow
import Derived.Lib.Strings
/-! Clefs: Find, Name, Sign. -/
namespace Go.Proofs.YtnakfeamimeioaaDoor
open Go.RowKit Go.Maps Go.Lib
attribute [local go_sem] World.cell?_alloc_some

theorem bytes_eq {L : ByteArray} {l : List UInt8} (b : Bool) (h : b = true ↔ L.data.toList = l) : (l == L.toList) = b ∧ (L.toList == l) = b := by
  rw [toList_data]
  by_cases e : L.data.toList = l
  · rw [h.2 e, e]; simp
  · have hb : b = false := by cases b; rfl; exact absurd (h.1 rfl) e
    rw [hb]
    exact ⟨beq_false_of_ne (fun k => e k.symm), beq_false_of_ne e⟩
/-- the clef with a name -/
def fI (l : List UInt8) : Int := if l = [116, 114, 101, 98, 108, 101] then 1 else if l = [98, 97, 115, 115] then 2 else if l = [97, 108, 116, 111] then 3 else if l = [116, 101, 110, 111, 114] then 4 else if l = [115, 111, 112, 114, 97, 110, 111] then 5 else if l = [109, 101, 122, 122, 111, 115, 111, 112, 114, 97, 110, 111] then 6 else if l = [98, 97, 114, 105, 116, 111, 110, 101] then 7 else if l = [116, 114, 101, 98, 108, 101, 56] then 8 else if l = [98, 97, 115, 115, 56] then 9 else 0
theorem fI_bd (l : List UInt8) : 0 ≤ fI l ∧ fI l ≤ 9 := by
  unfold fI
  repeat' split
  all_goals omega
theorem fI_0 (l : List UInt8) : l = [116, 114, 101, 98, 108, 101] ↔ fI l = 1 := by
  constructor
  · intro h; subst h; decide
  · intro h
    unfold fI at h
    repeat' split at h
    all_goals first | assumption | (exfalso; omega)
theorem fI_1 (l : List UInt8) : l = [98, 97, 115, 115] ↔ fI l = 2 := by
  constructor
  · intro h; subst h; decide
  · intro h
    unfold fI at h
    repeat' split at h
    all_goals first | assumption | (exfalso; omega)
theorem fI_2 (l : List UInt8) : l = [97, 108, 116, 111] ↔ fI l = 3 := by
  constructor
  · intro h; subst h; decide
  · intro h
    unfold fI at h
    repeat' split at h
    all_goals first | assumption | (exfalso; omega)
theorem fI_3 (l : List UInt8) : l = [116, 101, 110, 111, 114] ↔ fI l = 4 := by
  constructor
  · intro h; subst h; decide
  · intro h
    unfold fI at h
    repeat' split at h
    all_goals first | assumption | (exfalso; omega)
theorem fI_4 (l : List UInt8) : l = [115, 111, 112, 114, 97, 110, 111] ↔ fI l = 5 := by
  constructor
  · intro h; subst h; decide
  · intro h
    unfold fI at h
    repeat' split at h
    all_goals first | assumption | (exfalso; omega)
theorem fI_5 (l : List UInt8) : l = [109, 101, 122, 122, 111, 115, 111, 112, 114, 97, 110, 111] ↔ fI l = 6 := by
  constructor
  · intro h; subst h; decide
  · intro h
    unfold fI at h
    repeat' split at h
    all_goals first | assumption | (exfalso; omega)
theorem fI_6 (l : List UInt8) : l = [98, 97, 114, 105, 116, 111, 110, 101] ↔ fI l = 7 := by
  constructor
  · intro h; subst h; decide
  · intro h
    unfold fI at h
    repeat' split at h
    all_goals first | assumption | (exfalso; omega)
theorem fI_7 (l : List UInt8) : l = [116, 114, 101, 98, 108, 101, 56] ↔ fI l = 8 := by
  constructor
  · intro h; subst h; decide
  · intro h
    unfold fI at h
    repeat' split at h
    all_goals first | assumption | (exfalso; omega)
theorem fI_8 (l : List UInt8) : l = [98, 97, 115, 115, 56] ↔ fI l = 9 := by
  constructor
  · intro h; subst h; decide
  · intro h
    unfold fI at h
    repeat' split at h
    all_goals first | assumption | (exfalso; omega)

def dsAll : List Value := [.string ⟨#[116, 114, 101, 98, 108, 101]⟩, .int .u8 71, .int .i64 (-2), .int .i64 0, .int .i64 34, .int .i64 (-1), .int .i64 (-3), .string ⟨#[98, 97, 115, 115]⟩, .int .u8 70, .int .i64 2, .int .i64 0, .int .i64 22, .int .i64 (-3), .int .i64 (-5), .string ⟨#[97, 108, 116, 111]⟩, .int .u8 67, .int .i64 0, .int .i64 0, .int .i64 28, .int .i64 (-2), .int .i64 (-4), .string ⟨#[116, 101, 110, 111, 114]⟩, .int .u8 67, .int .i64 2, .int .i64 0, .int .i64 26, .int .i64 (-2), .int .i64 (-2), .string ⟨#[115, 111, 112, 114, 97, 110, 111]⟩, .int .u8 67, .int .i64 (-4), .int .i64 0, .int .i64 32, .int .i64 (-2), .int .i64 (-3), .string ⟨#[109, 101, 122, 122, 111, 115, 111, 112, 114, 97, 110, 111]⟩, .int .u8 67, .int .i64 (-2), .int .i64 0, .int .i64 30, .int .i64 (-2), .int .i64 (-3), .string ⟨#[98, 97, 114, 105, 116, 111, 110, 101]⟩, .int .u8 70, .int .i64 0, .int .i64 0, .int .i64 24, .int .i64 (-2), .int .i64 (-3), .string ⟨#[116, 114, 101, 98, 108, 101, 56]⟩, .int .u8 71, .int .i64 (-2), .int .i64 (-1), .int .i64 27, .int .i64 (-1), .int .i64 (-3), .string ⟨#[98, 97, 115, 115, 56]⟩, .int .u8 70, .int .i64 2, .int .i64 (-1), .int .i64 15, .int .i64 (-3), .int .i64 (-5)]
theorem ds_range {w : World} (h : Dsn w) : w.rangeAt 1 0 dsAll := by
  obtain ⟨x00, x01, x02, x03, x04, x05, x06⟩ := h.d1
  obtain ⟨x10, x11, x12, x13, x14, x15, x16⟩ := h.d2
  obtain ⟨x20, x21, x22, x23, x24, x25, x26⟩ := h.d3
  obtain ⟨x30, x31, x32, x33, x34, x35, x36⟩ := h.d4
  obtain ⟨x40, x41, x42, x43, x44, x45, x46⟩ := h.d5
  obtain ⟨x50, x51, x52, x53, x54, x55, x56⟩ := h.d6
  obtain ⟨x60, x61, x62, x63, x64, x65, x66⟩ := h.d7
  obtain ⟨x70, x71, x72, x73, x74, x75, x76⟩ := h.d8
  obtain ⟨x80, x81, x82, x83, x84, x85, x86⟩ := h.d9
  intro j v hv
  rw [Nat.zero_add]
  match j, hv with
  | 0, hv => exact (Option.some.inj hv) ▸ x00
  | 1, hv => exact (Option.some.inj hv) ▸ x01
  | 2, hv => exact (Option.some.inj hv) ▸ x02
  | 3, hv => exact (Option.some.inj hv) ▸ x03
  | 4, hv => exact (Option.some.inj hv) ▸ x04
  | 5, hv => exact (Option.some.inj hv) ▸ x05
  | 6, hv => exact (Option.some.inj hv) ▸ x06
  | 7, hv => exact (Option.some.inj hv) ▸ x10
  | 8, hv => exact (Option.some.inj hv) ▸ x11
  | 9, hv => exact (Option.some.inj hv) ▸ x12
  | 10, hv => exact (Option.some.inj hv) ▸ x13
  | 11, hv => exact (Option.some.inj hv) ▸ x14
  | 12, hv => exact (Option.some.inj hv) ▸ x15
  | 13, hv => exact (Option.some.inj hv) ▸ x16
  | 14, hv => exact (Option.some.inj hv) ▸ x20
  | 15, hv => exact (Option.some.inj hv) ▸ x21
  | 16, hv => exact (Option.some.inj hv) ▸ x22
  | 17, hv => exact (Option.some.inj hv) ▸ x23
  | 18, hv => exact (Option.some.inj hv) ▸ x24
  | 19, hv => exact (Option.some.inj hv) ▸ x25
  | 20, hv => exact (Option.some.inj hv) ▸ x26
  | 21, hv => exact (Option.some.inj hv) ▸ x30
  | 22, hv => exact (Option.some.inj hv) ▸ x31
  | 23, hv => exact (Option.some.inj hv) ▸ x32
  | 24, hv => exact (Option.some.inj hv) ▸ x33
  | 25, hv => exact (Option.some.inj hv) ▸ x34
  | 26, hv => exact (Option.some.inj hv) ▸ x35
  | 27, hv => exact (Option.some.inj hv) ▸ x36
  | 28, hv => exact (Option.some.inj hv) ▸ x40
  | 29, hv => exact (Option.some.inj hv) ▸ x41
  | 30, hv => exact (Option.some.inj hv) ▸ x42
  | 31, hv => exact (Option.some.inj hv) ▸ x43
  | 32, hv => exact (Option.some.inj hv) ▸ x44
  | 33, hv => exact (Option.some.inj hv) ▸ x45
  | 34, hv => exact (Option.some.inj hv) ▸ x46
  | 35, hv => exact (Option.some.inj hv) ▸ x50
  | 36, hv => exact (Option.some.inj hv) ▸ x51
  | 37, hv => exact (Option.some.inj hv) ▸ x52
  | 38, hv => exact (Option.some.inj hv) ▸ x53
  | 39, hv => exact (Option.some.inj hv) ▸ x54
  | 40, hv => exact (Option.some.inj hv) ▸ x55
  | 41, hv => exact (Option.some.inj hv) ▸ x56
  | 42, hv => exact (Option.some.inj hv) ▸ x60
  | 43, hv => exact (Option.some.inj hv) ▸ x61
  | 44, hv => exact (Option.some.inj hv) ▸ x62
  | 45, hv => exact (Option.some.inj hv) ▸ x63
  | 46, hv => exact (Option.some.inj hv) ▸ x64
  | 47, hv => exact (Option.some.inj hv) ▸ x65
  | 48, hv => exact (Option.some.inj hv) ▸ x66
  | 49, hv => exact (Option.some.inj hv) ▸ x70
  | 50, hv => exact (Option.some.inj hv) ▸ x71
  | 51, hv => exact (Option.some.inj hv) ▸ x72
  | 52, hv => exact (Option.some.inj hv) ▸ x73
  | 53, hv => exact (Option.some.inj hv) ▸ x74
  | 54, hv => exact (Option.some.inj hv) ▸ x75
  | 55, hv => exact (Option.some.inj hv) ▸ x76
  | 56, hv => exact (Option.some.inj hv) ▸ x80
  | 57, hv => exact (Option.some.inj hv) ▸ x81
  | 58, hv => exact (Option.some.inj hv) ▸ x82
  | 59, hv => exact (Option.some.inj hv) ▸ x83
  | 60, hv => exact (Option.some.inj hv) ▸ x84
  | 61, hv => exact (Option.some.inj hv) ▸ x85
  | 62, hv => exact (Option.some.inj hv) ▸ x86
  | j + 63, hv => simp [dsAll] at hv

theorem ix_0 (w : World) : (Instr.index 73 (.agg dsAll.toArray) (.int .i64 0)).run Tryd.prog w = .ok (.agg #[.string ⟨#[116, 114, 101, 98, 108, 101]⟩, .int .u8 71, .int .i64 (-2), .int .i64 0, .int .i64 34, .int .i64 (-1), .int .i64 (-3)]) w := by
  simp [Instr.index, run_underlying Tryd.underlying73, asIntOf, go_sem, dsAll]
theorem ix_1 (w : World) : (Instr.index 73 (.agg dsAll.toArray) (.int .i64 1)).run Tryd.prog w = .ok (.agg #[.string ⟨#[98, 97, 115, 115]⟩, .int .u8 70, .int .i64 2, .int .i64 0, .int .i64 22, .int .i64 (-3), .int .i64 (-5)]) w := by
  simp [Instr.index, run_underlying Tryd.underlying73, asIntOf, go_sem, dsAll]
theorem ix_2 (w : World) : (Instr.index 73 (.agg dsAll.toArray) (.int .i64 2)).run Tryd.prog w = .ok (.agg #[.string ⟨#[97, 108, 116, 111]⟩, .int .u8 67, .int .i64 0, .int .i64 0, .int .i64 28, .int .i64 (-2), .int .i64 (-4)]) w := by
  simp [Instr.index, run_underlying Tryd.underlying73, asIntOf, go_sem, dsAll]
theorem ix_3 (w : World) : (Instr.index 73 (.agg dsAll.toArray) (.int .i64 3)).run Tryd.prog w = .ok (.agg #[.string ⟨#[116, 101, 110, 111, 114]⟩, .int .u8 67, .int .i64 2, .int .i64 0, .int .i64 26, .int .i64 (-2), .int .i64 (-2)]) w := by
  simp [Instr.index, run_underlying Tryd.underlying73, asIntOf, go_sem, dsAll]
theorem ix_4 (w : World) : (Instr.index 73 (.agg dsAll.toArray) (.int .i64 4)).run Tryd.prog w = .ok (.agg #[.string ⟨#[115, 111, 112, 114, 97, 110, 111]⟩, .int .u8 67, .int .i64 (-4), .int .i64 0, .int .i64 32, .int .i64 (-2), .int .i64 (-3)]) w := by
  simp [Instr.index, run_underlying Tryd.underlying73, asIntOf, go_sem, dsAll]
theorem ix_5 (w : World) : (Instr.index 73 (.agg dsAll.toArray) (.int .i64 5)).run Tryd.prog w = .ok (.agg #[.string ⟨#[109, 101, 122, 122, 111, 115, 111, 112, 114, 97, 110, 111]⟩, .int .u8 67, .int .i64 (-2), .int .i64 0, .int .i64 30, .int .i64 (-2), .int .i64 (-3)]) w := by
  simp [Instr.index, run_underlying Tryd.underlying73, asIntOf, go_sem, dsAll]
theorem ix_6 (w : World) : (Instr.index 73 (.agg dsAll.toArray) (.int .i64 6)).run Tryd.prog w = .ok (.agg #[.string ⟨#[98, 97, 114, 105, 116, 111, 110, 101]⟩, .int .u8 70, .int .i64 0, .int .i64 0, .int .i64 24, .int .i64 (-2), .int .i64 (-3)]) w := by
  simp [Instr.index, run_underlying Tryd.underlying73, asIntOf, go_sem, dsAll]
theorem ix_7 (w : World) : (Instr.index 73 (.agg dsAll.toArray) (.int .i64 7)).run Tryd.prog w = .ok (.agg #[.string ⟨#[116, 114, 101, 98, 108, 101, 56]⟩, .int .u8 71, .int .i64 (-2), .int .i64 (-1), .int .i64 27, .int .i64 (-1), .int .i64 (-3)]) w := by
  simp [Instr.index, run_underlying Tryd.underlying73, asIntOf, go_sem, dsAll]
theorem ix_8 (w : World) : (Instr.index 73 (.agg dsAll.toArray) (.int .i64 8)).run Tryd.prog w = .ok (.agg #[.string ⟨#[98, 97, 115, 115, 56]⟩, .int .u8 70, .int .i64 2, .int .i64 (-1), .int .i64 15, .int .i64 (-3), .int .i64 (-5)]) w := by
  simp [Instr.index, run_underlying Tryd.underlying73, asIntOf, go_sem, dsAll]

set_option maxRecDepth 100000 in
set_option maxHeartbeats 6400000 in
theorem cFind_any (L : ByteArray) (w : World) (hT : Dsn w) : Calls Tryd.prog 30 #[.string L] w fun e w' => e = .returned (.tuple #[.int .i64 (fI L.data.toList), .int .i64 (if fI L.data.toList = 0 then 8 else 0)]) ∧ G w w' := by
  have rb := fI_bd L.data.toList
  have k0 := Lib.hid (fI_0 L.data.toList)
  have k1 := Lib.hid (fI_1 L.data.toList)
  have k2 := Lib.hid (fI_2 L.data.toList)
  have k3 := Lib.hid (fI_3 L.data.toList)
  have k4 := Lib.hid (fI_4 L.data.toList)
  have k5 := Lib.hid (fI_5 L.data.toList)
  have k6 := Lib.hid (fI_6 L.data.toList)
  have k7 := Lib.hid (fI_7 L.data.toList)
  have k8 := Lib.hid (fI_8 L.data.toList)
  obtain ⟨R, hR⟩ : ∃ z : Int, Hid (z = fI L.data.toList) := ⟨_, rfl⟩
  rw [← hR.out] at k0 k1 k2 k3 k4 k5 k6 k7 k8 rb ⊢
  obtain ⟨S, hS⟩ : ∃ z : Int, Hid (z = if R = 0 then 8 else 0) := ⟨_, rfl⟩
  rw [← hS.out]
  have RB := Lib.hid rb
  have HRG := Lib.hid (ds_range hT)
  clear hT rb
  go_enter Tryd.func30, Tryd.ntmps30
  go_wp2_with (refine wpList_load_mid rfl 73 (.global 1) rfl 1 0 rfl dsAll _ HRG.out Tryd.underlying73 rfl (by kernel_rfl) ?_)
  go_loopg [7] 9 (fun g x wr => ∃ n : Nat, x = .int .i64 n ∧ g = 9 - n ∧ n ≤ 9 ∧ Hid (R = 0 ∨ (n : Int) < R) ∧ G w wr)
  case atStart => exact ⟨0, rfl, rfl, by omega, Lib.hid (by have := RB.out; omega), by (repeat' (first | (with_reducible exact G.refl _) | (with_reducible assumption) | (with_reducible refine G.drewN ?_ _) | (with_reducible refine G.drew ?_) | (with_reducible refine G.alloc ?_ _) | (with_reducible refine G.setCell ?_ (by first | (with_reducible exact Nat.le_refl _) | (simp; done) | (simp; omega) | omega) _) | (with_reducible refine G.trans ?_ (by assumption))))⟩
  case round =>
    obtain ⟨n, rfl, hg, hn, hN, gr⟩ := hrel
    have HG := Lib.hid hg
    clear hg
    have h10 : n = 0 ∨ n = 1 ∨ n = 2 ∨ n = 3 ∨ n = 4 ∨ n = 5 ∨ n = 6 ∨ n = 7 ∨ n = 8 ∨ n = 9 := by omega
    rcases h10 with rfl | rfl | rfl | rfl | rfl | rfl | rfl | rfl | rfl | rfl
    · have hix := ix_0
      by_cases c : R = 1
      · have hb : (([116, 114, 101, 98, 108, 101] : List UInt8) == L.toList) = true := (bytes_eq (l := [116, 114, 101, 98, 108, 101]) true ⟨fun _ => k0.out.2 c, fun _ => rfl⟩).1
        have HC := Lib.hid c
        clear c
        go_wp2_with fail
        go_returns
        exact ⟨by rw [hS.out, HC.out]; rfl, by (repeat' (first | (with_reducible exact G.refl _) | (with_reducible assumption) | (with_reducible refine G.drewN ?_ _) | (with_reducible refine G.drew ?_) | (with_reducible refine G.alloc ?_ _) | (with_reducible refine G.setCell ?_ (by first | (with_reducible exact Nat.le_refl _) | (simp; done) | (simp; omega) | omega) _) | (with_reducible refine G.trans ?_ (by assumption))))⟩
      · have hb : (([116, 114, 101, 98, 108, 101] : List UInt8) == L.toList) = false := (bytes_eq (l := [116, 114, 101, 98, 108, 101]) false ⟨(fun h => by cases h), fun h => absurd (k0.out.1 h) c⟩).1
        have HC := Lib.hid c
        clear c
        go_wp2_with fail
        go_roundg 8
        case measure => have := HG.out; omega
        case rel => exact ⟨1, rfl, rfl, by omega, Lib.hid (by have := HC.out; have := hN.out; omega), by (repeat' (first | (with_reducible exact G.refl _) | (with_reducible assumption) | (with_reducible refine G.drewN ?_ _) | (with_reducible refine G.drew ?_) | (with_reducible refine G.alloc ?_ _) | (with_reducible refine G.setCell ?_ (by first | (with_reducible exact Nat.le_refl _) | (simp; done) | (simp; omega) | omega) _) | (with_reducible refine G.trans ?_ (by assumption))))⟩
    · have hix := ix_1
      by_cases c : R = 2
      · have hb : (([98, 97, 115, 115] : List UInt8) == L.toList) = true := (bytes_eq (l := [98, 97, 115, 115]) true ⟨fun _ => k1.out.2 c, fun _ => rfl⟩).1
        have HC := Lib.hid c
        clear c
        go_wp2_with fail
        go_returns
        exact ⟨by rw [hS.out, HC.out]; rfl, by (repeat' (first | (with_reducible exact G.refl _) | (with_reducible assumption) | (with_reducible refine G.drewN ?_ _) | (with_reducible refine G.drew ?_) | (with_reducible refine G.alloc ?_ _) | (with_reducible refine G.setCell ?_ (by first | (with_reducible exact Nat.le_refl _) | (simp; done) | (simp; omega) | omega) _) | (with_reducible refine G.trans ?_ (by assumption))))⟩
      · have hb : (([98, 97, 115, 115] : List UInt8) == L.toList) = false := (bytes_eq (l := [98, 97, 115, 115]) false ⟨(fun h => by cases h), fun h => absurd (k1.out.1 h) c⟩).1
        have HC := Lib.hid c
        clear c
        go_wp2_with fail
        go_roundg 7
        case measure => have := HG.out; omega
        case rel => exact ⟨2, rfl, rfl, by omega, Lib.hid (by have := HC.out; have := hN.out; omega), by (repeat' (first | (with_reducible exact G.refl _) | (with_reducible assumption) | (with_reducible refine G.drewN ?_ _) | (with_reducible refine G.drew ?_) | (with_reducible refine G.alloc ?_ _) | (with_reducible refine G.setCell ?_ (by first | (with_reducible exact Nat.le_refl _) | (simp; done) | (simp; omega) | omega) _) | (with_reducible refine G.trans ?_ (by assumption))))⟩
    · have hix := ix_2
      by_cases c : R = 3
      · have hb : (([97, 108, 116, 111] : List UInt8) == L.toList) = true := (bytes_eq (l := [97, 108, 116, 111]) true ⟨fun _ => k2.out.2 c, fun _ => rfl⟩).1
        have HC := Lib.hid c
        clear c
        go_wp2_with fail
        go_returns
        exact ⟨by rw [hS.out, HC.out]; rfl, by (repeat' (first | (with_reducible exact G.refl _) | (with_reducible assumption) | (with_reducible refine G.drewN ?_ _) | (with_reducible refine G.drew ?_) | (with_reducible refine G.alloc ?_ _) | (with_reducible refine G.setCell ?_ (by first | (with_reducible exact Nat.le_refl _) | (simp; done) | (simp; omega) | omega) _) | (with_reducible refine G.trans ?_ (by assumption))))⟩
      · have hb : (([97, 108, 116, 111] : List UInt8) == L.toList) = false := (bytes_eq (l := [97, 108, 116, 111]) false ⟨(fun h => by cases h), fun h => absurd (k2.out.1 h) c⟩).1
        have HC := Lib.hid c
        clear c
        go_wp2_with fail
        go_roundg 6
        case measure => have := HG.out; omega
        case rel => exact ⟨3, rfl, rfl, by omega, Lib.hid (by have := HC.out; have := hN.out; omega), by (repeat' (first | (with_reducible exact G.refl _) | (with_reducible assumption) | (with_reducible refine G.drewN ?_ _) | (with_reducible refine G.drew ?_) | (with_reducible refine G.alloc ?_ _) | (with_reducible refine G.setCell ?_ (by first | (with_reducible exact Nat.le_refl _) | (simp; done) | (simp; omega) | omega) _) | (with_reducible refine G.trans ?_ (by assumption))))⟩
    · have hix := ix_3
      by_cases c : R = 4
      · have hb : (([116, 101, 110, 111, 114] : List UInt8) == L.toList) = true := (bytes_eq (l := [116, 101, 110, 111, 114]) true ⟨fun _ => k3.out.2 c, fun _ => rfl⟩).1
        have HC := Lib.hid c
        clear c
        go_wp2_with fail
        go_returns
        exact ⟨by rw [hS.out, HC.out]; rfl, by (repeat' (first | (with_reducible exact G.refl _) | (with_reducible assumption) | (with_reducible refine G.drewN ?_ _) | (with_reducible refine G.drew ?_) | (with_reducible refine G.alloc ?_ _) | (with_reducible refine G.setCell ?_ (by first | (with_reducible exact Nat.le_refl _) | (simp; done) | (simp; omega) | omega) _) | (with_reducible refine G.trans ?_ (by assumption))))⟩
      · have hb : (([116, 101, 110, 111, 114] : List UInt8) == L.toList) = false := (bytes_eq (l := [116, 101, 110, 111, 114]) false ⟨(fun h => by cases h), fun h => absurd (k3.out.1 h) c⟩).1
        have HC := Lib.hid c
        clear c
        go_wp2_with fail
        go_roundg 5
        case measure => have := HG.out; omega
        case rel => exact ⟨4, rfl, rfl, by omega, Lib.hid (by have := HC.out; have := hN.out; omega), by (repeat' (first | (with_reducible exact G.refl _) | (with_reducible assumption) | (with_reducible refine G.drewN ?_ _) | (with_reducible refine G.drew ?_) | (with_reducible refine G.alloc ?_ _) | (with_reducible refine G.setCell ?_ (by first | (with_reducible exact Nat.le_refl _) | (simp; done) | (simp; omega) | omega) _) | (with_reducible refine G.trans ?_ (by assumption))))⟩
    · have hix := ix_4
      by_cases c : R = 5
      · have hb : (([115, 111, 112, 114, 97, 110, 111] : List UInt8) == L.toList) = true := (bytes_eq (l := [115, 111, 112, 114, 97, 110, 111]) true ⟨fun _ => k4.out.2 c, fun _ => rfl⟩).1
        have HC := Lib.hid c
        clear c
        go_wp2_with fail
        go_returns
        exact ⟨by rw [hS.out, HC.out]; rfl, by (repeat' (first | (with_reducible exact G.refl _) | (with_reducible assumption) | (with_reducible refine G.drewN ?_ _) | (with_reducible refine G.drew ?_) | (with_reducible refine G.alloc ?_ _) | (with_reducible refine G.setCell ?_ (by first | (with_reducible exact Nat.le_refl _) | (simp; done) | (simp; omega) | omega) _) | (with_reducible refine G.trans ?_ (by assumption))))⟩
      · have hb : (([115, 111, 112, 114, 97, 110, 111] : List UInt8) == L.toList) = false := (bytes_eq (l := [115, 111, 112, 114, 97, 110, 111]) false ⟨(fun h => by cases h), fun h => absurd (k4.out.1 h) c⟩).1
        have HC := Lib.hid c
        clear c
        go_wp2_with fail
        go_roundg 4
        case measure => have := HG.out; omega
        case rel => exact ⟨5, rfl, rfl, by omega, Lib.hid (by have := HC.out; have := hN.out; omega), by (repeat' (first | (with_reducible exact G.refl _) | (with_reducible assumption) | (with_reducible refine G.drewN ?_ _) | (with_reducible refine G.drew ?_) | (with_reducible refine G.alloc ?_ _) | (with_reducible refine G.setCell ?_ (by first | (with_reducible exact Nat.le_refl _) | (simp; done) | (simp; omega) | omega) _) | (with_reducible refine G.trans ?_ (by assumption))))⟩
    · have hix := ix_5
      by_cases c : R = 6
      · have hb : (([109, 101, 122, 122, 111, 115, 111, 112, 114, 97, 110, 111] : List UInt8) == L.toList) = true := (bytes_eq (l := [109, 101, 122, 122, 111, 115, 111, 112, 114, 97, 110, 111]) true ⟨fun _ => k5.out.2 c, fun _ => rfl⟩).1
        have HC := Lib.hid c
        clear c
        go_wp2_with fail
        go_returns
        exact ⟨by rw [hS.out, HC.out]; rfl, by (repeat' (first | (with_reducible exact G.refl _) | (with_reducible assumption) | (with_reducible refine G.drewN ?_ _) | (with_reducible refine G.drew ?_) | (with_reducible refine G.alloc ?_ _) | (with_reducible refine G.setCell ?_ (by first | (with_reducible exact Nat.le_refl _) | (simp; done) | (simp; omega) | omega) _) | (with_reducible refine G.trans ?_ (by assumption))))⟩
      · have hb : (([109, 101, 122, 122, 111, 115, 111, 112, 114, 97, 110, 111] : List UInt8) == L.toList) = false := (bytes_eq (l := [109, 101, 122, 122, 111, 115, 111, 112, 114, 97, 110, 111]) false ⟨(fun h => by cases h), fun h => absurd (k5.out.1 h) c⟩).1
        have HC := Lib.hid c
        clear c
        go_wp2_with fail
        go_roundg 3
        case measure => have := HG.out; omega
        case rel => exact ⟨6, rfl, rfl, by omega, Lib.hid (by have := HC.out; have := hN.out; omega), by (repeat' (first | (with_reducible exact G.refl _) | (with_reducible assumption) | (with_reducible refine G.drewN ?_ _) | (with_reducible refine G.drew ?_) | (with_reducible refine G.alloc ?_ _) | (with_reducible refine G.setCell ?_ (by first | (with_reducible exact Nat.le_refl _) | (simp; done) | (simp; omega) | omega) _) | (with_reducible refine G.trans ?_ (by assumption))))⟩
    · have hix := ix_6
      by_cases c : R = 7
      · have hb : (([98, 97, 114, 105, 116, 111, 110, 101] : List UInt8) == L.toList) = true := (bytes_eq (l := [98, 97, 114, 105, 116, 111, 110, 101]) true ⟨fun _ => k6.out.2 c, fun _ => rfl⟩).1
        have HC := Lib.hid c
        clear c
        go_wp2_with fail
        go_returns
        exact ⟨by rw [hS.out, HC.out]; rfl, by (repeat' (first | (with_reducible exact G.refl _) | (with_reducible assumption) | (with_reducible refine G.drewN ?_ _) | (with_reducible refine G.drew ?_) | (with_reducible refine G.alloc ?_ _) | (with_reducible refine G.setCell ?_ (by first | (with_reducible exact Nat.le_refl _) | (simp; done) | (simp; omega) | omega) _) | (with_reducible refine G.trans ?_ (by assumption))))⟩
      · have hb : (([98, 97, 114, 105, 116, 111, 110, 101] : List UInt8) == L.toList) = false := (bytes_eq (l := [98, 97, 114, 105, 116, 111, 110, 101]) false ⟨(fun h => by cases h), fun h => absurd (k6.out.1 h) c⟩).1
        have HC := Lib.hid c
        clear c
        go_wp2_with fail
        go_roundg 2
        case measure => have := HG.out; omega
        case rel => exact ⟨7, rfl, rfl, by omega, Lib.hid (by have := HC.out; have := hN.out; omega), by (repeat' (first | (with_reducible exact G.refl _) | (with_reducible assumption) | (with_reducible refine G.drewN ?_ _) | (with_reducible refine G.drew ?_) | (with_reducible refine G.alloc ?_ _) | (with_reducible refine G.setCell ?_ (by first | (with_reducible exact Nat.le_refl _) | (simp; done) | (simp; omega) | omega) _) | (with_reducible refine G.trans ?_ (by assumption))))⟩
    · have hix := ix_7
      by_cases c : R = 8
      · have hb : (([116, 114, 101, 98, 108, 101, 56] : List UInt8) == L.toList) = true := (bytes_eq (l := [116, 114, 101, 98, 108, 101, 56]) true ⟨fun _ => k7.out.2 c, fun _ => rfl⟩).1
        have HC := Lib.hid c
        clear c
        go_wp2_with fail
        go_returns
        exact ⟨by rw [hS.out, HC.out]; rfl, by (repeat' (first | (with_reducible exact G.refl _) | (with_reducible assumption) | (with_reducible refine G.drewN ?_ _) | (with_reducible refine G.drew ?_) | (with_reducible refine G.alloc ?_ _) | (with_reducible refine G.setCell ?_ (by first | (with_reducible exact Nat.le_refl _) | (simp; done) | (simp; omega) | omega) _) | (with_reducible refine G.trans ?_ (by assumption))))⟩
      · have hb : (([116, 114, 101, 98, 108, 101, 56] : List UInt8) == L.toList) = false := (bytes_eq (l := [116, 114, 101, 98, 108, 101, 56]) false ⟨(fun h => by cases h), fun h => absurd (k7.out.1 h) c⟩).1
        have HC := Lib.hid c
        clear c
        go_wp2_with fail
        go_roundg 1
        case measure => have := HG.out; omega
        case rel => exact ⟨8, rfl, rfl, by omega, Lib.hid (by have := HC.out; have := hN.out; omega), by (repeat' (first | (with_reducible exact G.refl _) | (with_reducible assumption) | (with_reducible refine G.drewN ?_ _) | (with_reducible refine G.drew ?_) | (with_reducible refine G.alloc ?_ _) | (with_reducible refine G.setCell ?_ (by first | (with_reducible exact Nat.le_refl _) | (simp; done) | (simp; omega) | omega) _) | (with_reducible refine G.trans ?_ (by assumption))))⟩
    · have hix := ix_8
      by_cases c : R = 9
      · have hb : (([98, 97, 115, 115, 56] : List UInt8) == L.toList) = true := (bytes_eq (l := [98, 97, 115, 115, 56]) true ⟨fun _ => k8.out.2 c, fun _ => rfl⟩).1
        have HC := Lib.hid c
        clear c
        go_wp2_with fail
        go_returns
        exact ⟨by rw [hS.out, HC.out]; rfl, by (repeat' (first | (with_reducible exact G.refl _) | (with_reducible assumption) | (with_reducible refine G.drewN ?_ _) | (with_reducible refine G.drew ?_) | (with_reducible refine G.alloc ?_ _) | (with_reducible refine G.setCell ?_ (by first | (with_reducible exact Nat.le_refl _) | (simp; done) | (simp; omega) | omega) _) | (with_reducible refine G.trans ?_ (by assumption))))⟩
      · have hb : (([98, 97, 115, 115, 56] : List UInt8) == L.toList) = false := (bytes_eq (l := [98, 97, 115, 115, 56]) false ⟨(fun h => by cases h), fun h => absurd (k8.out.1 h) c⟩).1
        have HC := Lib.hid c
        clear c
        go_wp2_with fail
        go_roundg 0
        case measure => have := HG.out; omega
        case rel => exact ⟨9, rfl, rfl, by omega, Lib.hid (by have := HC.out; have := hN.out; omega), by (repeat' (first | (with_reducible exact G.refl _) | (with_reducible assumption) | (with_reducible refine G.drewN ?_ _) | (with_reducible refine G.drew ?_) | (with_reducible refine G.alloc ?_ _) | (with_reducible refine G.setCell ?_ (by first | (with_reducible exact Nat.le_refl _) | (simp; done) | (simp; omega) | omega) _) | (with_reducible refine G.trans ?_ (by assumption))))⟩
    · have HC := Lib.hid (show R = 0 by have := RB.out; have := hN.out; omega)
      go_wp2_with fail
      go_returns
      exact ⟨by rw [hS.out, HC.out]; rfl, by (repeat' (first | (with_reducible exact G.refl _) | (with_reducible assumption) | (with_reducible refine G.drewN ?_ _) | (with_reducible refine G.drew ?_) | (with_reducible refine G.alloc ?_ _) | (with_reducible refine G.setCell ?_ (by first | (with_reducible exact Nat.le_refl _) | (simp; done) | (simp; omega) | omega) _) | (with_reducible refine G.trans ?_ (by assumption))))⟩

set_option maxRecDepth 100000 in
set_option maxHeartbeats 1600000 in
theorem cName_ok (c : Int) (w : World) (h : Cf c) (hT : Tab w) : Calls Tryd.prog 31 #[.int .i64 c] w fun e w' => e = .returned (.tuple #[.string (nm c), .int .i64 0]) ∧ G w w' := by
  have HC := Lib.hid h
  have HT := Lib.hid hT
  clear h hT
  go_enter Tryd.func31, Tryd.ntmps31
  go_wp2_with fail
  refine (designOf_ok c _ HC.out (HT.out.later (by (repeat' (first | (with_reducible exact G.refl _) | (with_reducible assumption) | (with_reducible refine G.drewN ?_ _) | (with_reducible refine G.drew ?_) | (with_reducible refine G.alloc ?_ _) | (with_reducible refine G.setCell ?_ (by first | (with_reducible exact Nat.le_refl _) | (simp; done) | (simp; omega) | omega) _) | (with_reducible refine G.trans ?_ (by assumption)))))).dsn).mono ?_
  rintro e w1 ⟨rfl, hG⟩
  go_wp2_with fail
  go_returns
  exact ⟨rfl, by (repeat' (first | (with_reducible exact G.refl _) | (with_reducible assumption) | (with_reducible refine G.drewN ?_ _) | (with_reducible refine G.drew ?_) | (with_reducible refine G.alloc ?_ _) | (with_reducible refine G.setCell ?_ (by first | (with_reducible exact Nat.le_refl _) | (simp; done) | (simp; omega) | omega) _) | (with_reducible refine G.trans ?_ (by assumption))))⟩
set_option maxHeartbeats 1600000 in
theorem cName_bad (c : Int) (w : World) (h : ¬ Cf c) : Calls Tryd.prog 31 #[.int .i64 c] w fun e w' => e = .returned (.tuple #[.string ⟨#[]⟩, .int .i64 11]) ∧ G w w' := by
  have HC := Lib.hid h
  clear h
  go_enter Tryd.func31, Tryd.ntmps31
  go_wp2_with fail
  refine (designOf_bad c _ HC.out).mono ?_
  rintro e w1 ⟨rfl, hG⟩
  go_wp2_with fail
  go_returns
  exact ⟨rfl, by (repeat' (first | (with_reducible exact G.refl _) | (with_reducible assumption) | (with_reducible refine G.drewN ?_ _) | (with_reducible refine G.drew ?_) | (with_reducible refine G.alloc ?_ _) | (with_reducible refine G.setCell ?_ (by first | (with_reducible exact Nat.le_refl _) | (simp; done) | (simp; omega) | omega) _) | (with_reducible refine G.trans ?_ (by assumption))))⟩
set_option maxRecDepth 100000 in
set_option maxHeartbeats 1600000 in
theorem cSign_ok (c : Int) (w : World) (h : Cf c) (hT : Tab w) : Calls Tryd.prog 32 #[.int .i64 c] w fun e w' => e = .returned (.tuple #[.int .u8 (lt c), .int .i64 (li c), .int .i64 (oc c), .int .i64 0]) ∧ G w w' := by
  have HC := Lib.hid h
  have HT := Lib.hid hT
  clear h hT
  go_enter Tryd.func32, Tryd.ntmps32
  go_wp2_with fail
  refine (designOf_ok c _ HC.out (HT.out.later (by (repeat' (first | (with_reducible exact G.refl _) | (with_reducible assumption) | (with_reducible refine G.drewN ?_ _) | (with_reducible refine G.drew ?_) | (with_reducible refine G.alloc ?_ _) | (with_reducible refine G.setCell ?_ (by first | (with_reducible exact Nat.le_refl _) | (simp; done) | (simp; omega) | omega) _) | (with_reducible refine G.trans ?_ (by assumption)))))).dsn).mono ?_
  rintro e w1 ⟨rfl, hG⟩
  go_wp2_with fail
  go_big_region
  all_goals
    go_wp2_with fail
    go_returns
    exact ⟨rfl, by (repeat' (first | (with_reducible exact G.refl _) | (with_reducible assumption) | (with_reducible refine G.drewN ?_ _) | (with_reducible refine G.drew ?_) | (with_reducible refine G.alloc ?_ _) | (with_reducible refine G.setCell ?_ (by first | (with_reducible exact Nat.le_refl _) | (simp; done) | (simp; omega) | omega) _) | (with_reducible refine G.trans ?_ (by assumption))))⟩
set_option maxHeartbeats 1600000 in
theorem cSign_bad (c : Int) (w : World) (h : ¬ Cf c) : Calls Tryd.prog 32 #[.int .i64 c] w fun e w' => e = .returned (.tuple #[.int .u8 0, .int .i64 0, .int .i64 0, .int .i64 11]) ∧ G w w' := by
  have HC := Lib.hid h
  clear h
  go_enter Tryd.func32, Tryd.ntmps32
  go_wp2_with fail
  refine (designOf_bad c _ HC.out).mono ?_
  rintro e w1 ⟨rfl, hG⟩
  go_wp2_with fail
  go_big_region
  all_goals
    go_wp2_with fail
    go_returns
    exact ⟨rfl, by (repeat' (first | (with_reducible exact G.refl _) | (with_reducible assumption) | (with_reducible refine G.drewN ?_ _) | (with_reducible refine G.drew ?_) | (with_reducible refine G.alloc ?_ _) | (with_reducible refine G.setCell ?_ (by first | (with_reducible exact Nat.le_refl _) | (simp; done) | (simp; omega) | omega) _) | (with_reducible refine G.trans ?_ (by assumption))))⟩
end Go.Proofs.YtnakfeamimeioaaDoor
