import Derived.Test.YtdiokagnpiiijaaDoorTonic
/-! The names of keys. -/
namespace Go.Proofs.YtdiokagnpiiijaaDoor
open Go.RowKit
attribute [local go_sem] World.cell?_alloc_some

def ltr (s : Int) : UInt8 := if s = 0 then 67 else if s = 1 then 68 else if s = 2 then 69 else if s = 3 then 70 else if s = 4 then 71 else if s = 5 then 65 else 66
def sig (a : Int) : List UInt8 := if a = -1 then [98] else if a = 0 then [] else [35]
def mdw (m : Bool) : List UInt8 := if m then [109, 105, 110, 111, 114] else [109, 97, 106, 111, 114]
def kn (s a : Int) (m : Bool) : List UInt8 := ltr s :: (sig a ++ 32 :: mdw m)
theorem letter_run (s : Int) (h0 : 0 ≤ s) (h1 : s ≤ 6) (w : World) :
    (Instr.sliceAt 9 (.string ⟨#[67, 68, 69, 70, 71, 65, 66]⟩) (some (.int .i64 s)) (some (.int .i64 (s + 1))) none).run Tryd.prog w = .ok (.string ⟨#[ltr s]⟩) w := by
  rcases seven h0 h1 with rfl | rfl | rfl | rfl | rfl | rfl | rfl <;> simp [Instr.sliceAt, run_underlying Tryd.underlying9, asIntOf, go_sem, Instr.sliceBound] <;> decide
theorem ret_str2 {a b : ByteArray} {c : Int} (h : a = b) : Ending.returned (.tuple #[.string a, .int .i64 c]) = .returned (.tuple #[.string b, .int .i64 c]) := by rw [h]

theorem Name_bad (f : Int) (m : Bool) (w : World) (h : ¬ Sg f) :
    Calls Tryd.prog 28 #[.int .i64 f, .bool m] w fun e w' => e = .returned (.tuple #[.string ⟨#[]⟩, .int .i64 2]) ∧ w = w' := by
  have HS := Lib.hid h
  clear h
  go_enter Tryd.func28, Tryd.ntmps28
  go_wp2_with fail
  refine (Tonic_bad f m _ HS.out).mono ?_
  rintro e w1 ⟨rfl, rfl⟩
  go_wp2_with fail
  go_returns
  exact ⟨rfl, rfl⟩

set_option maxRecDepth 20000 in
set_option maxHeartbeats 3200000 in
theorem Name_ok (f : Int) (m : Bool) (w : World) (h : Sg f) (hT : Tab w) :
    Calls Tryd.prog 28 #[.int .i64 f, .bool m] w fun e w' => e = .returned (.tuple #[.string ⟨(kn (tS (f + mi m)) (tA (f + mi m)) m).toArray⟩, .int .i64 0]) ∧ G w w' := by
  have HS := Lib.hid h
  have HT := Lib.hid hT
  obtain ⟨g0, g1, g2⟩ : _ ∧ _ ∧ _ := ⟨hT.g0, hT.g1, hT.g2⟩
  have tb := tS_bd (f + mi m)
  have ab : -1 ≤ tA (f + mi m) ∧ tA (f + mi m) ≤ 1 := by
    have := mi_bd m
    obtain ⟨f0, f1⟩ := h
    exact tA_bd (by omega) (by omega)
  obtain ⟨s, hs⟩ : ∃ z : Int, Hid (z = tS (f + mi m)) := ⟨_, rfl⟩
  obtain ⟨a, ha⟩ : ∃ z : Int, Hid (z = tA (f + mi m)) := ⟨_, rfl⟩
  rw [← hs.out] at tb
  rw [← ha.out] at ab
  obtain ⟨s0, s1⟩ := tb
  rw [← hs.out, ← ha.out]
  clear hT h
  have q1 := IntWalk.i64_in (s + 1) (by omega)
  obtain ⟨Lt, hLt⟩ : ∃ z : ByteArray, Hid (z = ⟨#[ltr s]⟩) := ⟨_, rfl⟩
  have hLs : Lt.size = 1 := by rw [hLt.out]; rfl
  have hsl : ∀ wz, (Instr.sliceAt 9 (.string ⟨#[67, 68, 69, 70, 71, 65, 66]⟩) (some (.int .i64 s)) (some (.int .i64 (s + 1))) none).run Tryd.prog wz = .ok (.string Lt) wz := by
    rw [hLt.out]; exact letter_run s s0 s1
  have e1 : ByteArray.size ⟨#[98]⟩ = 1 := rfl
  have e0 : ByteArray.size ⟨#[]⟩ = 0 := rfl
  have e3 : ByteArray.size ⟨#[35]⟩ = 1 := rfl
  have e4 : ByteArray.size ⟨#[32]⟩ = 1 := rfl
  have e5 : ByteArray.size ⟨#[109, 105, 110, 111, 114]⟩ = 5 := rfl
  have e6 : ByteArray.size ⟨#[109, 97, 106, 111, 114]⟩ = 5 := rfl
  have f1 : (Lt ++ (⟨#[98]⟩ : ByteArray)).size = 2 := by rw [ByteArray.size_append, hLs, e1]
  have f0 : (Lt ++ (⟨#[]⟩ : ByteArray)).size = 1 := by rw [ByteArray.size_append, hLs, e0]
  have f3 : (Lt ++ (⟨#[35]⟩ : ByteArray)).size = 2 := by rw [ByteArray.size_append, hLs, e3]
  have k1 : (Lt ++ (⟨#[98]⟩ : ByteArray) ++ (⟨#[32]⟩ : ByteArray)).size = 3 := by rw [ByteArray.size_append, f1, e4]
  have k0 : (Lt ++ (⟨#[]⟩ : ByteArray) ++ (⟨#[32]⟩ : ByteArray)).size = 2 := by rw [ByteArray.size_append, f0, e4]
  have k3 : (Lt ++ (⟨#[35]⟩ : ByteArray) ++ (⟨#[32]⟩ : ByteArray)).size = 3 := by rw [ByteArray.size_append, f3, e4]
  have h3 : a = -1 ∨ a = 0 ∨ a = 1 := by omega
  obtain ⟨R, hR⟩ : ∃ z : ByteArray, Hid (z = ⟨(kn s a m).toArray⟩) := ⟨_, rfl⟩
  rw [← hR.out]
  clear ab
  have q2 : IntKind.i64.wrap 0 = 0 := by decide
  have q3 : IntKind.i64.wrap 1 = 1 := by decide
  have q4 : IntKind.i64.wrap 2 = 2 := by decide
  rcases h3 with rfl | rfl | rfl <;> cases m
  all_goals
    go_enter Tryd.func28, Tryd.ntmps28
    go_wp2_with fail
    refine (Tonic_ok f _ _ HS.out HT.out).mono ?_
    rintro e w1 ⟨rfl, rfl⟩
    rw [← hs.out, ← ha.out]
    go_wp2_with fail
    go_region_held3 (fun w' => w'.cell? ⟨1, 0, none⟩ = some (.string ⟨#[98]⟩) ∧ w'.cell? ⟨1, 1, none⟩ = some (.string ⟨#[]⟩) ∧ w'.cell? ⟨1, 2, none⟩ = some (.string ⟨#[35]⟩))
      (first | (with_reducible assumption) | ((try dsimp only); (repeat' (with_reducible apply And.intro)) <;> go_simp))
      (fail)
    go_wp2_with fail
    go_returns
    refine ⟨ret_str2 ?_, by (repeat' (first | (with_reducible exact G.refl _) | (with_reducible assumption) | (with_reducible refine G.drewN ?_ _) | (with_reducible refine G.drew ?_) | (with_reducible refine G.alloc ?_ _) | (with_reducible refine G.setCell ?_ (by first | (with_reducible exact Nat.le_refl _) | (simp; done) | (simp; omega) | omega) _) | (with_reducible refine G.trans ?_ (by assumption))))⟩
    rw [hR.out, hLt.out]
    apply ByteArray.ext
    simp [kn, sig, mdw]
end Go.Proofs.YtdiokagnpiiijaaDoor
