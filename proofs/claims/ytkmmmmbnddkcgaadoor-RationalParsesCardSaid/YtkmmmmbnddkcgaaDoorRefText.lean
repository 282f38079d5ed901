import Derived.Test.YtkmmmmbnddkcgaaDoorText
import Derived.Laws.BytesArg
/-! Text of the reference: the digits of a number one after the other, by recursion. -/
namespace Go.Proofs.YtkmmmmbnddkcgaaDoor
open Go.RowKit QM

theorem rem10 (u : Nat) : Int.tmod (u : Int) 10 = ((u % 10 : Nat) : Int) := by
  rw [Int.tmod_eq_emod_of_nonneg (by omega)]; omega
theorem quo10 (u : Nat) : Int.tdiv (u : Int) 10 = ((u / 10 : Nat) : Int) := by
  rw [Int.tdiv_eq_ediv_of_nonneg (by omega)]; omega
theorem byte_in (u : Nat) : IntKind.u8.wrap (48 + ((u % 10 : Nat) : Int)) = 48 + ((u % 10 : Nat) : Int) := by
  have : u % 10 < 10 := Nat.mod_lt _ (by omega)
  generalize u % 10 = r at *
  have : r = 0 ∨ r = 1 ∨ r = 2 ∨ r = 3 ∨ r = 4 ∨ r = 5 ∨ r = 6 ∨ r = 7 ∨ r = 8 ∨ r = 9 := by omega
  rcases this with rfl | rfl | rfl | rfl | rfl | rfl | rfl | rfl | rfl | rfl <;> decide

theorem byte_string (u : Int) (w : World) : (convert 99 9 (.slice (some ⟨w.heap.size, 0, none⟩) 1 1)).run Tryd.prog (w.alloc (.cells #[.int .u8 (48 + u % 10)] 5)) =
    .ok (.string (strOfNums [48 + u % 10])) (w.alloc (.cells #[.int .u8 (48 + u % 10)] 5)) :=
  run_convert_bytes_arg _ 99 5 (by kernel_rfl) (by kernel_rfl) _ 0 1 1 [48 + u % 10] rfl
    (fun i hi => by obtain rfl : i = 0 := by omega
                    simp [go_sem]) 9 (by kernel_rfl)
theorem last_digit (u : Nat) : (strOfNums [48 + (u : Int) % 10]).data = #[UInt8.ofNat (48 + u % 10)] := by
  unfold strOfNums
  have : (48 + (u : Int) % 10).toNat = 48 + u % 10 := by omega
  simp [this]

set_option maxHeartbeats 800000 in
set_option maxRecDepth 20000 in
theorem digits_any (u : Nat) : u ≤ 4294967296 → ∀ w : World,
    Calls Tryd.prog 62 #[.int .i64 (u : Nat)] w fun e w' => e = .returned (.string ⟨(Lib.decDigits u).toArray⟩) ∧ G w w' := by
  induction u using Nat.strongRecOn with
  | _ u ih =>
    intro hu w
    have q0 := rem10 u
    have q1 := IntWalk.i64_in (48 + ((u % 10 : Nat) : Int)) (by omega)
    have q2 := byte_in u
    have q3 := quo10 u
    have q4 := IntWalk.i64_in ((u / 10 : Nat) : Int) (by omega)
    have hc := byte_string u
    have hd := Lib.hid (last_digit u)
    by_cases c : u < 10
    · have e0 : Lib.decDigits u = [UInt8.ofNat (48 + u % 10)] := by rw [Lib.decDigits_one c, Nat.mod_eq_of_lt c]
      have E0 := Lib.hid e0
      clear e0 ih hu
      go_enter Tryd.func62, Tryd.ntmps62
      go_wp2
      go_ret
      refine ⟨ret_str ?_, by (repeat' (first | (with_reducible exact G.refl _) | (with_reducible assumption) | (with_reducible refine G.drewN ?_ _) | (with_reducible refine G.drew ?_) | (with_reducible refine G.alloc ?_ _) | (with_reducible refine G.setCell ?_ (by first | (with_reducible exact Nat.le_refl _) | (simp; done) | (simp; omega) | omega) _) | (with_reducible refine G.trans ?_ (by assumption))))⟩
      rw [E0.out]
      apply ByteArray.ext
      rw [hd.out]
    · have e0 : Lib.decDigits u = Lib.decDigits (u / 10) ++ [UInt8.ofNat (48 + u % 10)] := by
        rw [Lib.decDigits, dif_neg c]
      have E0 := Lib.hid e0
      have IH := Lib.hid (ih (u / 10) (by omega) (by omega))
      have l1 := decDigits_len (u / 10)
      clear e0 ih
      go_enter Tryd.func62, Tryd.ntmps62
      go_wp2_with fail
      refine (IH.out _).mono ?_
      rintro e w1 ⟨rfl, hG1⟩
      have l2 : (strOfNums [48 + (u : Int) % 10]).size = 1 := strOfNums_size _
      go_wp2
      go_ret
      refine ⟨ret_str ?_, by (repeat' (first | (with_reducible exact G.refl _) | (with_reducible assumption) | (with_reducible refine G.drewN ?_ _) | (with_reducible refine G.drew ?_) | (with_reducible refine G.alloc ?_ _) | (with_reducible refine G.setCell ?_ (by first | (with_reducible exact Nat.le_refl _) | (simp; done) | (simp; omega) | omega) _) | (with_reducible refine G.trans ?_ (by assumption))))⟩
      rw [E0.out]
      apply ByteArray.ext
      simp [hd.out]

theorem rmag_is (n : Int) (m : Nat) (w : World) (hm : Hid (m = n.natAbs)) (h1 : -9223372036854775808 ≤ n) (h2 : n ≤ 9223372036854775807) :
    Calls Tryd.prog 54 #[.int .i64 n] w fun e w' => e = .returned (.int .u64 (m : Nat)) ∧ G w w' := by
  rw [hm.out]
  exact (rmagnitude_any n w h1 h2).mono fun _ _ h => ⟨h.1, by have := h.2; subst this; exact G.refl _⟩

set_option maxHeartbeats 800000 in
set_option maxRecDepth 20000 in
theorem rText_any (N O : Int) (w : World) (h : Cn N O) :
    Calls Tryd.prog 41 #[.agg #[.int .i64 N, .int .i64 (O + 1)]] w fun e w' => e = .returned (.string ⟨(txt N O).toArray⟩) ∧ G w w' := by
  obtain ⟨a1, a2, a3, a4, a5⟩ := h
  clear a5
  obtain ⟨m, Hm⟩ : ∃ m : Nat, Hid (m = N.natAbs) := ⟨_, rfl⟩
  obtain ⟨k, Hk⟩ : ∃ k : Nat, Hid ((k : Int) = O + 1) := ⟨(O + 1).toNat, by unfold Hid; omega⟩
  have m1 : m ≤ 1073741824 := by have := Hm.out; omega
  have k1 : k ≤ 1073741824 := by have := Hk.out; omega
  have q0 := IntWalk.i64_in (m : Int) (by omega)
  have l1 := decDigits_len m
  have l2 := decDigits_len k
  have e1 : Lib.itoa N = if N < 0 then 45 :: Lib.decDigits m else Lib.decDigits m := by
    unfold Lib.itoa
    split
    · rw [Hm.out]
    · rw [Hm.out]; congr 1; omega
  have e2 : txt N O = Lib.itoa N ++ if 0 < O then 47 :: Lib.decDigits k else [] := by
    unfold txt
    split
    · rw [← Hk.out, Lib.itoa_nonneg]
    · rfl
  rw [← Hk.out]
  have g0 : 0 < O ↔ ¬ (k : Int) = 1 := by have := Hk.out; omega
  by_cases c1 : N < 0 <;> by_cases c2 : (k : Int) = 1
  · have e0 : txt N O = 45 :: Lib.decDigits m := by rw [e2, e1, if_pos c1, if_neg (by rw [g0]; exact fun q => q c2), List.append_nil]
    have E0 := Lib.hid e0
    have z1 : ((k : Int) == 1) = true := by simpa using c2
    clear e0 e1 e2 g0
    go_enter Tryd.func41, Tryd.ntmps41
    go_wp2_with fail
    refine (rmag_is N m _ Hm (by omega) (by omega)).mono ?_
    rintro e w1 ⟨rfl, hG1⟩
    obtain ⟨y1, y2, y3, y4, y5⟩ := one_cells hG1
    go_wp2_with fail
    refine (digits_any m (by omega) _).mono ?_
    rintro e w2 ⟨rfl, hG2⟩
    obtain ⟨x1, x2, x3, x4, x5⟩ := one_cells (hG1.trans (G.trans (by (repeat' (first | (with_reducible exact G.refl _) | (with_reducible assumption) | (with_reducible refine G.drewN ?_ _) | (with_reducible refine G.drew ?_) | (with_reducible refine G.alloc ?_ _) | (with_reducible refine G.setCell ?_ (by first | (with_reducible exact Nat.le_refl _) | (simp; done) | (simp; omega) | omega) _) | (with_reducible refine G.trans ?_ (by assumption))))) hG2))
    go_wp2
    go_ret
    refine ⟨ret_str ?_, by (repeat' (first | (with_reducible exact G.refl _) | (with_reducible assumption) | (with_reducible refine G.drewN ?_ _) | (with_reducible refine G.drew ?_) | (with_reducible refine G.alloc ?_ _) | (with_reducible refine G.setCell ?_ (by first | (with_reducible exact Nat.le_refl _) | (simp; done) | (simp; omega) | omega) _) | (with_reducible refine G.trans ?_ (by assumption))))⟩
    rw [E0.out]
    apply ByteArray.ext
    simp
  · have e0 : txt N O = 45 :: Lib.decDigits m ++ 47 :: Lib.decDigits k := by rw [e2, e1, if_pos c1, if_pos (g0.2 c2)]
    have E0 := Lib.hid e0
    have z1 : ((k : Int) == 1) = false := by simpa using c2
    clear e0 e1 e2 g0
    go_enter Tryd.func41, Tryd.ntmps41
    go_wp2_with fail
    refine (rmag_is N m _ Hm (by omega) (by omega)).mono ?_
    rintro e w1 ⟨rfl, hG1⟩
    obtain ⟨y1, y2, y3, y4, y5⟩ := one_cells hG1
    go_wp2_with fail
    refine (digits_any m (by omega) _).mono ?_
    rintro e w2 ⟨rfl, hG2⟩
    obtain ⟨x1, x2, x3, x4, x5⟩ := one_cells (hG1.trans (G.trans (by (repeat' (first | (with_reducible exact G.refl _) | (with_reducible assumption) | (with_reducible refine G.drewN ?_ _) | (with_reducible refine G.drew ?_) | (with_reducible refine G.alloc ?_ _) | (with_reducible refine G.setCell ?_ (by first | (with_reducible exact Nat.le_refl _) | (simp; done) | (simp; omega) | omega) _) | (with_reducible refine G.trans ?_ (by assumption))))) hG2))
    go_wp2_with fail
    refine (digits_any k (by omega) _).mono ?_
    rintro e w3 ⟨rfl, hG3⟩
    go_wp2
    go_ret
    refine ⟨ret_str ?_, by (repeat' (first | (with_reducible exact G.refl _) | (with_reducible assumption) | (with_reducible refine G.drewN ?_ _) | (with_reducible refine G.drew ?_) | (with_reducible refine G.alloc ?_ _) | (with_reducible refine G.setCell ?_ (by first | (with_reducible exact Nat.le_refl _) | (simp; done) | (simp; omega) | omega) _) | (with_reducible refine G.trans ?_ (by assumption))))⟩
    rw [E0.out]
    apply ByteArray.ext
    simp
  · have e0 : txt N O = Lib.decDigits m := by rw [e2, e1, if_neg c1, if_neg (by rw [g0]; exact fun q => q c2), List.append_nil]
    have E0 := Lib.hid e0
    have z1 : ((k : Int) == 1) = true := by simpa using c2
    clear e0 e1 e2 g0
    go_enter Tryd.func41, Tryd.ntmps41
    go_wp2_with fail
    refine (rmag_is N m _ Hm (by omega) (by omega)).mono ?_
    rintro e w1 ⟨rfl, hG1⟩
    obtain ⟨y1, y2, y3, y4, y5⟩ := one_cells hG1
    go_wp2_with fail
    refine (digits_any m (by omega) _).mono ?_
    rintro e w2 ⟨rfl, hG2⟩
    obtain ⟨x1, x2, x3, x4, x5⟩ := one_cells (hG1.trans (G.trans (by (repeat' (first | (with_reducible exact G.refl _) | (with_reducible assumption) | (with_reducible refine G.drewN ?_ _) | (with_reducible refine G.drew ?_) | (with_reducible refine G.alloc ?_ _) | (with_reducible refine G.setCell ?_ (by first | (with_reducible exact Nat.le_refl _) | (simp; done) | (simp; omega) | omega) _) | (with_reducible refine G.trans ?_ (by assumption))))) hG2))
    go_wp2
    go_ret
    refine ⟨ret_str ?_, by (repeat' (first | (with_reducible exact G.refl _) | (with_reducible assumption) | (with_reducible refine G.drewN ?_ _) | (with_reducible refine G.drew ?_) | (with_reducible refine G.alloc ?_ _) | (with_reducible refine G.setCell ?_ (by first | (with_reducible exact Nat.le_refl _) | (simp; done) | (simp; omega) | omega) _) | (with_reducible refine G.trans ?_ (by assumption))))⟩
    rw [E0.out]
    apply ByteArray.ext
    simp
  · have e0 : txt N O = Lib.decDigits m ++ 47 :: Lib.decDigits k := by rw [e2, e1, if_neg c1, if_pos (g0.2 c2)]
    have E0 := Lib.hid e0
    have z1 : ((k : Int) == 1) = false := by simpa using c2
    clear e0 e1 e2 g0
    go_enter Tryd.func41, Tryd.ntmps41
    go_wp2_with fail
    refine (rmag_is N m _ Hm (by omega) (by omega)).mono ?_
    rintro e w1 ⟨rfl, hG1⟩
    obtain ⟨y1, y2, y3, y4, y5⟩ := one_cells hG1
    go_wp2_with fail
    refine (digits_any m (by omega) _).mono ?_
    rintro e w2 ⟨rfl, hG2⟩
    obtain ⟨x1, x2, x3, x4, x5⟩ := one_cells (hG1.trans (G.trans (by (repeat' (first | (with_reducible exact G.refl _) | (with_reducible assumption) | (with_reducible refine G.drewN ?_ _) | (with_reducible refine G.drew ?_) | (with_reducible refine G.alloc ?_ _) | (with_reducible refine G.setCell ?_ (by first | (with_reducible exact Nat.le_refl _) | (simp; done) | (simp; omega) | omega) _) | (with_reducible refine G.trans ?_ (by assumption))))) hG2))
    go_wp2_with fail
    refine (digits_any k (by omega) _).mono ?_
    rintro e w3 ⟨rfl, hG3⟩
    go_wp2
    go_ret
    refine ⟨ret_str ?_, by (repeat' (first | (with_reducible exact G.refl _) | (with_reducible assumption) | (with_reducible refine G.drewN ?_ _) | (with_reducible refine G.drew ?_) | (with_reducible refine G.alloc ?_ _) | (with_reducible refine G.setCell ?_ (by first | (with_reducible exact Nat.le_refl _) | (simp; done) | (simp; omega) | omega) _) | (with_reducible refine G.trans ?_ (by assumption))))⟩
    rw [E0.out]
    apply ByteArray.ext
    simp
end Go.Proofs.YtkmmmmbnddkcgaaDoor
