import Derived.Test.YtfmjjbcmgkhgaaaDoorPrs
import Derived.Test.YtfmjjbcmgkhgaaaDoorRef1
import Derived.Test.YtfmjjbcmgkhgaaaDoorTri
import Derived.BigRegion
/-! The reference's names; what Parse answers at a name. -/
namespace Go.Proofs.YtfmjjbcmgkhgaaaDoor
open Go.RowKit Go.Shelf
attribute [local go_sem] World.cell?_alloc_some

def tx (o : Int) : List UInt8 := if o = -1 then [45, 49] else [UInt8.ofNat (48 + o).toNat]
theorem octs {o : Int} (h0 : -1 ≤ o) (h1 : o ≤ 9) : o = -1 ∨ o = 0 ∨ o = 1 ∨ o = 2 ∨ o = 3 ∨ o = 4 ∨ o = 5 ∨ o = 6 ∨ o = 7 ∨ o = 8 ∨ o = 9 := by omega
theorem itoa_tx {o : Int} (h0 : -1 ≤ o) (h1 : o ≤ 9) : Lib.itoa o = tx o := by
  rcases octs h0 h1 with rfl | rfl | rfl | rfl | rfl | rfl | rfl | rfl | rfl | rfl | rfl <;> unfold Lib.itoa tx <;> simp <;> rw [Lib.decDigits] <;> simp <;> decide
theorem restF_of {l : List UInt8} {a v : Int} (h1 : Lib.atoiAll (dg l) = .ok v) (h2 : tx v = dg l) (h3 : -1 ≤ v) (h4 : v ≤ 9) (h5 : alF (dg l) l = some (a + 2)) : restF l = some (a, v) := by
  unfold restF
  rw [h1]
  dsimp only
  rw [if_pos ⟨by rw [itoa_tx h3 h4]; exact h2, h3, h4⟩, h5]
  simp
theorem restF_tx {a o : Int} (a0 : -2 ≤ a) (a1 : a ≤ 2) (h0 : -1 ≤ o) (h1 : o ≤ 9) : restF (sig a ++ tx o) = some (a, o) := by
  rcases alts5 a0 a1 with rfl | rfl | rfl | rfl | rfl <;> rcases octs h0 h1 with rfl | rfl | rfl | rfl | rfl | rfl | rfl | rfl | rfl | rfl | rfl <;>
    exact restF_of (by rfl) (by decide +kernel) (by decide) (by decide) (by decide +kernel)
theorem ix_ltr {s : Int} (h0 : 0 ≤ s) (h1 : s ≤ 6) : Lib.indexByte LET (ltr s) = s := by
  rcases steps7 h0 h1 with rfl | rfl | rfl | rfl | rfl | rfl | rfl <;> decide +kernel
theorem parseF_nm {s a o : Int} (h : Ok s a o) : parseF (nm s a o) = ((s, a, o), 0, 0) := by
  obtain ⟨⟨⟨s0, s1⟩, ⟨a0, a1⟩, o0, o1⟩, _⟩ := id h
  unfold nm
  rw [parseF_cons, ix_ltr s0 s1, if_neg (by omega), itoa_tx o0 o1, restF_tx a0 a1 o0 o1]
  dsimp only
  rw [ey_ok h, ey_ok h, ey_ok h, er_ok h]
theorem ret_str {a b : ByteArray} (h : a = b) : Ending.returned (.string a) = .returned (.string b) := by rw [h]

set_option maxHeartbeats 3200000 in
theorem rName_any (s a o : Int) (w : World) (h : Inr s a o) :
    Calls Tryd.prog 32 #[.agg #[.int .i64 s, .int .i64 a, .int .i64 o]] w fun e w' => e = .returned (.string ⟨(nm s a o).toArray⟩) ∧ G w w' := by
  obtain ⟨⟨s0, s1⟩, ⟨a0, a1⟩, o0, o1⟩ := h
  have q1 := IntWalk.i64_in (s + 1) (by omega)
  have q3 := IntWalk.i64_in (48 + o) (by omega)
  have q4 := IntWalk.u8_in (48 + o) (by omega)
  obtain ⟨R, hR⟩ : ∃ R : ByteArray, Hid (R = ⟨(nm s a o).toArray⟩) := ⟨_, rfl⟩
  rw [← hR.out]
  obtain ⟨Lt, hLt⟩ : ∃ z : ByteArray, Hid (z = ⟨#[ltr s]⟩) := ⟨_, rfl⟩
  have hLs : Lt.size = 1 := by rw [hLt.out]; rfl
  have hsl : ∀ wz, (Instr.sliceAt 9 (.string ⟨#[67, 68, 69, 70, 71, 65, 66]⟩) (some (.int .i64 s)) (some (.int .i64 (s + 1))) none).run Tryd.prog wz = .ok (.string Lt) wz := by
    rw [hLt.out]; exact letter_run s s0 s1
  obtain ⟨Dg, hDg⟩ : ∃ z : ByteArray, Hid (z = ⟨#[UInt8.ofNat (48 + o).toNat]⟩) := ⟨_, rfl⟩
  have hDs : Dg.size = 1 := by rw [hDg.out]; rfl
  have hcv : 0 ≤ o → ∀ (wz : World) (g : Nat), wz.cell? ⟨g, 0, none⟩ = some (.int .u8 (48 + o)) → (convert 77 9 (.slice (some ⟨g, 0, none⟩) 1 1)).run Tryd.prog wz = .ok (.string Dg) wz := by
    intro ho wz g hc
    rw [hDg.out]
    exact run_convert_bytes_back wz _ _ _ ⟨g, 0, none⟩ 1 [UInt8.ofNat (48 + o).toNat] Tryd.underlying77 Tryd.underlying5 Tryd.underlying9 (by
      intro j hj
      have e : j = 0 := by simpa using hj
      subst e
      rw [show (Addr.add ⟨g, 0, none⟩ 0) = ⟨g, 0, none⟩ from rfl, hc]
      congr 2
      simp
      omega)
  have e2 : ByteArray.size ⟨#[98, 98]⟩ = 2 := rfl
  have e1 : ByteArray.size ⟨#[98]⟩ = 1 := rfl
  have e0 : ByteArray.size ⟨#[]⟩ = 0 := rfl
  have e3 : ByteArray.size ⟨#[35]⟩ = 1 := rfl
  have e4 : ByteArray.size ⟨#[35, 35]⟩ = 2 := rfl
  have e5 : ByteArray.size ⟨#[45, 49]⟩ = 2 := rfl
  have f2 : (Lt ++ (⟨#[98, 98]⟩ : ByteArray)).size = 3 := by rw [ByteArray.size_append, hLs, e2]
  have f1 : (Lt ++ (⟨#[98]⟩ : ByteArray)).size = 2 := by rw [ByteArray.size_append, hLs, e1]
  have f0 : (Lt ++ (⟨#[]⟩ : ByteArray)).size = 1 := by rw [ByteArray.size_append, hLs, e0]
  have f3 : (Lt ++ (⟨#[35]⟩ : ByteArray)).size = 2 := by rw [ByteArray.size_append, hLs, e3]
  have f4 : (Lt ++ (⟨#[35, 35]⟩ : ByteArray)).size = 3 := by rw [ByteArray.size_append, hLs, e4]
  by_cases ho : o < 0
  · obtain rfl : o = -1 := by omega
    clear hcv
    rcases alts5 a0 a1 with rfl | rfl | rfl | rfl | rfl
    · have q2 : IntKind.i64.wrap 0 = 0 := by decide
      go_enter Tryd.func32, Tryd.ntmps32
      go_wp2_with fail
      go_big_region
      go_wp2
      go_returns
      refine ⟨ret_str ?_, by (repeat' (first | (with_reducible exact G.refl _) | (with_reducible assumption) | (with_reducible refine G.drewN ?_ _) | (with_reducible refine G.drew ?_) | (with_reducible refine G.alloc ?_ _) | (with_reducible refine G.setCell ?_ (by first | (with_reducible exact Nat.le_refl _) | (simp; done) | (simp; omega) | omega) _) | (with_reducible refine G.trans ?_ (by assumption))))⟩
      rw [hR.out, hLt.out]
      unfold nm
      rw [itoa_tx (by decide) (by decide)]
      apply ByteArray.ext
      simp [sig, tx]
    · have q2 : IntKind.i64.wrap 1 = 1 := by decide
      go_enter Tryd.func32, Tryd.ntmps32
      go_wp2_with fail
      go_big_region
      go_wp2
      go_returns
      refine ⟨ret_str ?_, by (repeat' (first | (with_reducible exact G.refl _) | (with_reducible assumption) | (with_reducible refine G.drewN ?_ _) | (with_reducible refine G.drew ?_) | (with_reducible refine G.alloc ?_ _) | (with_reducible refine G.setCell ?_ (by first | (with_reducible exact Nat.le_refl _) | (simp; done) | (simp; omega) | omega) _) | (with_reducible refine G.trans ?_ (by assumption))))⟩
      rw [hR.out, hLt.out]
      unfold nm
      rw [itoa_tx (by decide) (by decide)]
      apply ByteArray.ext
      simp [sig, tx]
    · have q2 : IntKind.i64.wrap 2 = 2 := by decide
      go_enter Tryd.func32, Tryd.ntmps32
      go_wp2_with fail
      go_big_region
      go_wp2
      go_returns
      refine ⟨ret_str ?_, by (repeat' (first | (with_reducible exact G.refl _) | (with_reducible assumption) | (with_reducible refine G.drewN ?_ _) | (with_reducible refine G.drew ?_) | (with_reducible refine G.alloc ?_ _) | (with_reducible refine G.setCell ?_ (by first | (with_reducible exact Nat.le_refl _) | (simp; done) | (simp; omega) | omega) _) | (with_reducible refine G.trans ?_ (by assumption))))⟩
      rw [hR.out, hLt.out]
      unfold nm
      rw [itoa_tx (by decide) (by decide)]
      apply ByteArray.ext
      simp [sig, tx]
    · have q2 : IntKind.i64.wrap 3 = 3 := by decide
      go_enter Tryd.func32, Tryd.ntmps32
      go_wp2_with fail
      go_big_region
      go_wp2
      go_returns
      refine ⟨ret_str ?_, by (repeat' (first | (with_reducible exact G.refl _) | (with_reducible assumption) | (with_reducible refine G.drewN ?_ _) | (with_reducible refine G.drew ?_) | (with_reducible refine G.alloc ?_ _) | (with_reducible refine G.setCell ?_ (by first | (with_reducible exact Nat.le_refl _) | (simp; done) | (simp; omega) | omega) _) | (with_reducible refine G.trans ?_ (by assumption))))⟩
      rw [hR.out, hLt.out]
      unfold nm
      rw [itoa_tx (by decide) (by decide)]
      apply ByteArray.ext
      simp [sig, tx]
    · have q2 : IntKind.i64.wrap 4 = 4 := by decide
      go_enter Tryd.func32, Tryd.ntmps32
      go_wp2_with fail
      go_big_region
      go_wp2
      go_returns
      refine ⟨ret_str ?_, by (repeat' (first | (with_reducible exact G.refl _) | (with_reducible assumption) | (with_reducible refine G.drewN ?_ _) | (with_reducible refine G.drew ?_) | (with_reducible refine G.alloc ?_ _) | (with_reducible refine G.setCell ?_ (by first | (with_reducible exact Nat.le_refl _) | (simp; done) | (simp; omega) | omega) _) | (with_reducible refine G.trans ?_ (by assumption))))⟩
      rw [hR.out, hLt.out]
      unfold nm
      rw [itoa_tx (by decide) (by decide)]
      apply ByteArray.ext
      simp [sig, tx]
  · have ho' : 0 ≤ o := by omega
    have hcv := hcv ho'
    have HO := Lib.hid (show o ≠ -1 by omega)
    rcases alts5 a0 a1 with rfl | rfl | rfl | rfl | rfl
    · have q2 : IntKind.i64.wrap 0 = 0 := by decide
      go_enter Tryd.func32, Tryd.ntmps32
      go_wp2_with fail
      go_big_region
      go_wp2
      go_returns
      refine ⟨ret_str ?_, by (repeat' (first | (with_reducible exact G.refl _) | (with_reducible assumption) | (with_reducible refine G.drewN ?_ _) | (with_reducible refine G.drew ?_) | (with_reducible refine G.alloc ?_ _) | (with_reducible refine G.setCell ?_ (by first | (with_reducible exact Nat.le_refl _) | (simp; done) | (simp; omega) | omega) _) | (with_reducible refine G.trans ?_ (by assumption))))⟩
      rw [hR.out, hLt.out, hDg.out]
      unfold nm
      rw [itoa_tx o0 o1]
      apply ByteArray.ext
      simp [sig, tx, HO.out]
    · have q2 : IntKind.i64.wrap 1 = 1 := by decide
      go_enter Tryd.func32, Tryd.ntmps32
      go_wp2_with fail
      go_big_region
      go_wp2
      go_returns
      refine ⟨ret_str ?_, by (repeat' (first | (with_reducible exact G.refl _) | (with_reducible assumption) | (with_reducible refine G.drewN ?_ _) | (with_reducible refine G.drew ?_) | (with_reducible refine G.alloc ?_ _) | (with_reducible refine G.setCell ?_ (by first | (with_reducible exact Nat.le_refl _) | (simp; done) | (simp; omega) | omega) _) | (with_reducible refine G.trans ?_ (by assumption))))⟩
      rw [hR.out, hLt.out, hDg.out]
      unfold nm
      rw [itoa_tx o0 o1]
      apply ByteArray.ext
      simp [sig, tx, HO.out]
    · have q2 : IntKind.i64.wrap 2 = 2 := by decide
      go_enter Tryd.func32, Tryd.ntmps32
      go_wp2_with fail
      go_big_region
      go_wp2
      go_returns
      refine ⟨ret_str ?_, by (repeat' (first | (with_reducible exact G.refl _) | (with_reducible assumption) | (with_reducible refine G.drewN ?_ _) | (with_reducible refine G.drew ?_) | (with_reducible refine G.alloc ?_ _) | (with_reducible refine G.setCell ?_ (by first | (with_reducible exact Nat.le_refl _) | (simp; done) | (simp; omega) | omega) _) | (with_reducible refine G.trans ?_ (by assumption))))⟩
      rw [hR.out, hLt.out, hDg.out]
      unfold nm
      rw [itoa_tx o0 o1]
      apply ByteArray.ext
      simp [sig, tx, HO.out]
    · have q2 : IntKind.i64.wrap 3 = 3 := by decide
      go_enter Tryd.func32, Tryd.ntmps32
      go_wp2_with fail
      go_big_region
      go_wp2
      go_returns
      refine ⟨ret_str ?_, by (repeat' (first | (with_reducible exact G.refl _) | (with_reducible assumption) | (with_reducible refine G.drewN ?_ _) | (with_reducible refine G.drew ?_) | (with_reducible refine G.alloc ?_ _) | (with_reducible refine G.setCell ?_ (by first | (with_reducible exact Nat.le_refl _) | (simp; done) | (simp; omega) | omega) _) | (with_reducible refine G.trans ?_ (by assumption))))⟩
      rw [hR.out, hLt.out, hDg.out]
      unfold nm
      rw [itoa_tx o0 o1]
      apply ByteArray.ext
      simp [sig, tx, HO.out]
    · have q2 : IntKind.i64.wrap 4 = 4 := by decide
      go_enter Tryd.func32, Tryd.ntmps32
      go_wp2_with fail
      go_big_region
      go_wp2
      go_returns
      refine ⟨ret_str ?_, by (repeat' (first | (with_reducible exact G.refl _) | (with_reducible assumption) | (with_reducible refine G.drewN ?_ _) | (with_reducible refine G.drew ?_) | (with_reducible refine G.alloc ?_ _) | (with_reducible refine G.setCell ?_ (by first | (with_reducible exact Nat.le_refl _) | (simp; done) | (simp; omega) | omega) _) | (with_reducible refine G.trans ?_ (by assumption))))⟩
      rw [hR.out, hLt.out, hDg.out]
      unfold nm
      rw [itoa_tx o0 o1]
      apply ByteArray.ext
      simp [sig, tx, HO.out]
end Go.Proofs.YtfmjjbcmgkhgaaaDoor
