import Derived.Test.YtdiokagnpiiijaaDoorBase
/-! Tonics: of the program and of the reference. -/
namespace Go.Proofs.YtdiokagnpiiijaaDoor
open Go.RowKit
attribute [local go_sem] World.cell?_alloc_some

theorem Tab.cell {w : World} (h : Tab w) (k : Nat) (hk : k < 7) : w.cell? ⟨0, k, none⟩ = some (.int .i64 (sh k)) := by
  have e : k = 0 ∨ k = 1 ∨ k = 2 ∨ k = 3 ∨ k = 4 ∨ k = 5 ∨ k = 6 := by omega
  rcases e with rfl | rfl | rfl | rfl | rfl | rfl | rfl
  · exact h.s0
  · exact h.s1
  · exact h.s2
  · exact h.s3
  · exact h.s4
  · exact h.s5
  · exact h.s6
theorem mi_bd (m : Bool) : 0 ≤ mi m ∧ mi m ≤ 3 := by cases m <;> simp [mi]
def tnS (f : Int) (m : Bool) : Int := if Sg f then tS (f + mi m) else 0
def tnA (f : Int) (m : Bool) : Int := if Sg f then tA (f + mi m) else 0

set_option maxRecDepth 20000 in
set_option maxHeartbeats 3200000 in
theorem Tonic_ok (f : Int) (m : Bool) (w : World) (h : Sg f) (hT : Tab w) :
    Calls Tryd.prog 21 #[.int .i64 f, .bool m] w fun e w' => e = .returned (.tuple #[.int .i64 (tS (f + mi m)), .int .i64 (tA (f + mi m)), .int .i64 0]) ∧ w = w' := by
  have HS := Lib.hid h
  obtain ⟨f0, f1⟩ := h
  obtain ⟨b0, b1⟩ := mi_bd m
  obtain ⟨d, hd⟩ : ∃ z : Int, mi m = z := ⟨_, rfl⟩
  rw [hd] at b0 b1 ⊢
  obtain ⟨k, hk⟩ : ∃ z : Nat, Hid ((z : Int) = (f + d + 8) % 7) := ⟨((f + d + 8) % 7).toNat, Lib.hid (by omega)⟩
  obtain ⟨q, hq⟩ : ∃ z : Int, Hid (z = (f + d + 8) / 7) := ⟨_, rfl⟩
  have k7 : k < 7 := by have := hk.out; omega
  have hc := hT.cell k k7
  have q0 : 0 ≤ q := by have := hq.out; omega
  have q1 : q ≤ 3 := by have := hq.out; omega
  have e1 : (f + d + 1 + 7) % 7 = (k : Int) := by rw [hk.out]; omega
  have e2 : (f + d + 1 + 7) / 7 = q := by rw [hq.out]; omega
  obtain ⟨R, hR⟩ : ∃ z : Int, Hid (z = sh k) := ⟨_, rfl⟩
  have HR := Lib.hid (show Ending.returned (.tuple #[.int .i64 (tS (f + d)), .int .i64 (tA (f + d)), .int .i64 0]) = .returned (.tuple #[.int .i64 R, .int .i64 (q - 1), .int .i64 0]) by
    unfold tS tA; rw [← hk.out, ← hq.out, ← hR.out])
  rw [HR.out]
  rw [← hR.out] at hc
  clear HR
  go_enter Tryd.func21, Tryd.ntmps21
  go_wp2_with fail
  refine (Check_any f _).mono ?_
  rintro e w1 ⟨rfl, rfl⟩
  rw [ck_ok HS.out]
  go_wp2_with fail
  refine (shift_any m _).mono ?_
  rintro e w1 ⟨rfl, rfl⟩
  rw [hd]
  go_wp2_with fail
  go_returns
  exact ⟨rfl, rfl⟩

set_option maxHeartbeats 800000 in
theorem Tonic_bad (f : Int) (m : Bool) (w : World) (h : ¬ Sg f) :
    Calls Tryd.prog 21 #[.int .i64 f, .bool m] w fun e w' => e = .returned (.tuple #[.int .i64 0, .int .i64 0, .int .i64 2]) ∧ w = w' := by
  have HS := Lib.hid h
  clear h
  go_enter Tryd.func21, Tryd.ntmps21
  go_wp2_with fail
  refine (Check_any f _).mono ?_
  rintro e w1 ⟨rfl, rfl⟩
  rw [ck_bad HS.out]
  go_wp2_with fail
  go_returns
  exact ⟨rfl, rfl⟩
theorem Tonic_any (f : Int) (m : Bool) (w : World) (hT : Tab w) :
    Calls Tryd.prog 21 #[.int .i64 f, .bool m] w fun e w' => e = .returned (.tuple #[.int .i64 (tnS f m), .int .i64 (tnA f m), .int .i64 (ck f)]) ∧ w = w' := by
  unfold tnS tnA ck
  by_cases h : Sg f
  · rw [if_pos h, if_pos h, if_pos h]; exact Tonic_ok f m w h hT
  · rw [if_neg h, if_neg h, if_neg h]; exact Tonic_bad f m w h

/-- the signature of the key with a tonic, and the error -/
def ofN (s a : Int) (m : Bool) : Int := if Cl s a ∧ Sg (pl s a - mi m) then pl s a - mi m else 0
def ofE (s a : Int) (m : Bool) : Int := if Cl s a then ck (pl s a - mi m) else 18

set_option maxHeartbeats 1600000 in
theorem Of_any (s a : Int) (m : Bool) (w : World) (hT : Tab w) :
    Calls Tryd.prog 22 #[.int .i64 s, .int .i64 a, .bool m] w fun e w' => e = .returned (.tuple #[.int .i64 (ofN s a m), .int .i64 (ofE s a m)]) ∧ w = w' := by
  have HT := Lib.hid hT
  clear hT
  by_cases h : Cl s a
  · have HC := Lib.hid h
    obtain ⟨⟨s0, s1⟩, a0, a1⟩ := h
    obtain ⟨b0, b1⟩ := mi_bd m
    obtain ⟨r0, r1⟩ := rk_in s0 s1
    obtain ⟨d, hd⟩ : ∃ z : Int, mi m = z := ⟨_, rfl⟩
    obtain ⟨r, hr⟩ : ∃ z : Int, rk s = z := ⟨_, rfl⟩
    rw [hd] at b0 b1
    rw [hr] at r0 r1
    have HD := Lib.hid hd
    have HR := Lib.hid hr
    have HP := Lib.hid (show pl s a - mi m = r - 1 + 7 * a - d by unfold pl; rw [hd, hr])
    clear hd hr
    by_cases c : Sg (r - 1 + 7 * a - d)
    · have HG := Lib.hid c
      have HV := Lib.hid (show ofN s a m = r - 1 + 7 * a - d ∧ ofE s a m = 0 by
        unfold ofN ofE; rw [HP.out, if_pos ⟨HC.out, c⟩, if_pos HC.out, ck_ok c]; exact ⟨rfl, rfl⟩)
      rw [HV.out.1, HV.out.2]
      clear HV c
      go_enter Tryd.func22, Tryd.ntmps22
      go_wp2_with fail
      refine (isClass_any s a _).mono ?_
      rintro e w1 ⟨rfl, rfl⟩
      rw [decide_eq_true HC.out]
      go_wp2_with fail
      refine (rank_any s _ HT.out).mono ?_
      rintro e w1 ⟨rfl, rfl⟩
      rw [HR.out]
      go_wp2_with fail
      refine (shift_any m _).mono ?_
      rintro e w1 ⟨rfl, rfl⟩
      rw [HD.out]
      go_wp2_with fail
      refine (Check_any _ _).mono ?_
      rintro e w1 ⟨rfl, rfl⟩
      rw [ck_ok HG.out]
      go_wp2_with fail
      go_returns
      exact ⟨rfl, rfl⟩
    · have HG := Lib.hid c
      have HV := Lib.hid (show ofN s a m = 0 ∧ ofE s a m = 2 by
        unfold ofN ofE; rw [HP.out, if_neg (fun k => c k.2), if_pos HC.out, ck_bad c]; exact ⟨rfl, rfl⟩)
      rw [HV.out.1, HV.out.2]
      clear HV c
      go_enter Tryd.func22, Tryd.ntmps22
      go_wp2_with fail
      refine (isClass_any s a _).mono ?_
      rintro e w1 ⟨rfl, rfl⟩
      rw [decide_eq_true HC.out]
      go_wp2_with fail
      refine (rank_any s _ HT.out).mono ?_
      rintro e w1 ⟨rfl, rfl⟩
      rw [HR.out]
      go_wp2_with fail
      refine (shift_any m _).mono ?_
      rintro e w1 ⟨rfl, rfl⟩
      rw [HD.out]
      go_wp2_with fail
      refine (Check_any _ _).mono ?_
      rintro e w1 ⟨rfl, rfl⟩
      rw [ck_bad HG.out]
      go_wp2_with fail
      go_returns
      exact ⟨rfl, rfl⟩
  · have HC := Lib.hid h
    have HV := Lib.hid (show ofN s a m = 0 ∧ ofE s a m = 18 by
      unfold ofN ofE; rw [if_neg (fun k => h k.1), if_neg h]; exact ⟨rfl, rfl⟩)
    rw [HV.out.1, HV.out.2]
    clear HV h
    go_enter Tryd.func22, Tryd.ntmps22
    go_wp2_with fail
    refine (isClass_any s a _).mono ?_
    rintro e w1 ⟨rfl, rfl⟩
    rw [decide_eq_false HC.out]
    go_wp2_with fail
    go_returns
    exact ⟨rfl, rfl⟩

set_option maxRecDepth 20000 in
set_option maxHeartbeats 3200000 in
theorem Place_any (s a : Int) (w : World) (h : Cl s a) :
    Calls Tryd.prog 42 #[.int .i64 s, .int .i64 a] w fun e w' => e = .returned (.int .i64 (pl s a)) ∧ G w w' := by
  obtain ⟨⟨s0, s1⟩, a0, a1⟩ := h
  obtain ⟨R, hR⟩ : ∃ z : Int, Hid (z = pl s a) := ⟨_, rfl⟩
  rw [← hR.out]
  go_enter Tryd.func42, Tryd.ntmps42
  go_wp2_with fail
  go_loopg [5] 7 (fun g x wr => ∃ k : Nat, x = .int .i64 k ∧ g = 7 - k ∧ k ≤ 7 ∧ Hid (∀ j : Nat, j < k → sh j ≠ s) ∧ G w wr)
  case atStart => exact ⟨0, rfl, rfl, by omega, Lib.hid (fun j p => by omega), G.refl _⟩
  case round =>
    obtain ⟨k, rfl, hg, hk, hno, hG⟩ := hrel
    have HG := Lib.hid hg
    clear hg
    by_cases hk7 : k = 7
    · exfalso
      subst hk7
      have e := sh_rk s0 s1
      have b := rk_in s0 s1
      refine hno.out (rk s).toNat (by omega) ?_
      rw [Int.toNat_of_nonneg b.1]; exact e
    · have h7 : k < 7 := by omega
      have q := IntWalk.i64_in ((k : Int) + 1) (by omega)
      by_cases hm : sh k = s
      · have hb : (sh k == s) = true := by rw [hm]; simp
        have HR := Lib.hid (show R = (k : Int) - 1 + 7 * a by rw [hR.out]; unfold pl; rw [← hm, rk_sh (by omega) (by omega)])
        clear hm
        go_wp2_with fail
        refine (Sharps_any _).mono ?_
        rintro e w1 ⟨rfl, rfl⟩
        have hc := sharps_cell wr _ k rfl h7
        obtain ⟨X, hX⟩ : ∃ z : Int, Hid (z = sh k) := ⟨_, rfl⟩
        rw [← hX.out] at hc hb
        go_wp2_with fail
        go_ret
        exact ⟨ret_int (by rw [HR.out]), by (repeat' (first | (with_reducible exact G.refl _) | (with_reducible assumption) | (with_reducible refine G.drewN ?_ _) | (with_reducible refine G.drew ?_) | (with_reducible refine G.alloc ?_ _) | (with_reducible refine G.setCell ?_ (by first | (with_reducible exact Nat.le_refl _) | (simp; done) | (simp; omega) | omega) _) | (with_reducible refine G.trans ?_ (by assumption))))⟩
      · have hb : (sh k == s) = false := beq_false_of_ne hm
        have HNO := Lib.hid (show ∀ j : Nat, j < k + 1 → sh j ≠ s by
          intro j r
          by_cases e : j = k
          · rw [e]; exact hm
          · exact hno.out j (by omega))
        clear hm
        go_wp2_with fail
        refine (Sharps_any _).mono ?_
        rintro e w1 ⟨rfl, rfl⟩
        have hc := sharps_cell wr _ k rfl h7
        obtain ⟨X, hX⟩ : ∃ z : Int, Hid (z = sh k) := ⟨_, rfl⟩
        rw [← hX.out] at hc hb
        go_wp2_with fail
        go_roundg (7 - (k + 1))
        case measure => have := HG.out; omega
        case rel => exact ⟨k + 1, by go_num, rfl, by omega, HNO, by (repeat' (first | (with_reducible exact G.refl _) | (with_reducible assumption) | (with_reducible refine G.drewN ?_ _) | (with_reducible refine G.drew ?_) | (with_reducible refine G.alloc ?_ _) | (with_reducible refine G.setCell ?_ (by first | (with_reducible exact Nat.le_refl _) | (simp; done) | (simp; omega) | omega) _) | (with_reducible refine G.trans ?_ (by assumption))))⟩

set_option maxRecDepth 20000 in
set_option maxHeartbeats 3200000 in
theorem rTonic_n (f n : Int) (m : Bool) (w : World) (hf : Sg f) (hn : n = f + mi m) :
    Calls Tryd.prog 24 #[.int .i64 f, .bool m] w fun e w' => e = .returned (.tuple #[.int .i64 (tS n), .int .i64 (tA n)]) ∧ G w w' := by
  obtain ⟨f0, f1⟩ := hf
  have hb := mi_bd m
  have n0 : -7 ≤ n := by omega
  have n1 : n ≤ 10 := by omega
  obtain ⟨R, hR⟩ : ∃ z : Value, Hid (z = .tuple #[.int .i64 (tS n), .int .i64 (tA n)]) := ⟨_, rfl⟩
  rw [← hR.out]
  have HE := Lib.hid (show 0 ≤ tS n ∧ tS n ≤ 6 ∧ -1 ≤ tA n ∧ tA n ≤ 1 ∧ pl (tS n) (tA n) = n from ⟨(tS_bd n).1, (tS_bd n).2, (tA_bd n0 n1).1, (tA_bd n0 n1).2, pl_t⟩)
  cases m
  · obtain rfl : n = f := by simpa [mi] using hn
    clear hb hn
    go_enter Tryd.func24, Tryd.ntmps24
    go_wp2_with fail
    go_loopg [6] 5 (fun g x wr => ∃ a : Int, x = .int .i64 a ∧ g = (3 - a).toNat ∧ -2 ≤ a ∧ a ≤ 3 ∧ Hid (∀ a' s', -2 ≤ a' → a' < a → 0 ≤ s' → s' ≤ 6 → pl s' a' ≠ n) ∧ G w wr)
    case atStart => exact ⟨-2, rfl, by decide, by omega, by omega, Lib.hid (fun a' s' p q => by omega), G.refl _⟩
    case round =>
      obtain ⟨a, rfl, hg, a0, a1, hna, hG⟩ := hrel
      have HG := Lib.hid hg
      clear hg
      by_cases h3 : a = 3
      · exfalso
        subst h3
        have e := HE.out
        exact hna.out (tA n) (tS n) (by omega) (by omega) e.1 e.2.1 e.2.2.2.2
      · have a2 : a ≤ 2 := by omega
        have qa := IntWalk.i64_in (a + 1) (by omega)
        go_wp2_with fail
        go_loopg [7] 7 (fun g x wr => ∃ s : Int, x = .int .i64 s ∧ g = (7 - s).toNat ∧ 0 ≤ s ∧ s ≤ 7 ∧ Hid (∀ s', 0 ≤ s' → s' < s → pl s' a ≠ n) ∧ G w wr)
        case atStart => exact ⟨0, rfl, by decide, by omega, by omega, Lib.hid (fun s' p q => by omega), hG⟩
        case round =>
          obtain ⟨s, rfl, hg, s0, s1, hns, hG2⟩ := hrel
          have HGS := Lib.hid hg
          clear hg
          by_cases h7 : s = 7
          · subst h7
            have HNA := Lib.hid (show ∀ a' s', -2 ≤ a' → a' < a + 1 → 0 ≤ s' → s' ≤ 6 → pl s' a' ≠ n by
              intro a' s' p q u v
              by_cases e : a' = a
              · rw [e]; exact hns.out s' u (by omega)
              · exact hna.out a' s' p (by omega) u v)
            go_wp2_with fail
            go_roundg ((3 - (a + 1)).toNat)
            case measure => have := HG.out; omega
            case rel => exact ⟨a + 1, rfl, rfl, by omega, by omega, HNA, hG2⟩
          · have s6 : s ≤ 6 := by omega
            have qs := IntWalk.i64_in (s + 1) (by omega)
            by_cases hm : pl s a = n
            · have hb : (pl s a == n) = true := by rw [hm]; simp
              have HR := Lib.hid (show R = .tuple #[.int .i64 s, .int .i64 a] by
                obtain ⟨e1, e2⟩ := t_of_pl s0 s6 hm
                rw [hR.out, ← e1, ← e2])
              clear hm
              go_wp2_with fail
              refine (Place_any s a _ ⟨⟨s0, s6⟩, a0, a2⟩).mono ?_
              rintro e w1 ⟨rfl, hG3⟩
              go_wp2_with fail
              go_returns
              refine ⟨?_, by (repeat' (first | (with_reducible exact G.refl _) | (with_reducible assumption) | (with_reducible refine G.drewN ?_ _) | (with_reducible refine G.drew ?_) | (with_reducible refine G.alloc ?_ _) | (with_reducible refine G.setCell ?_ (by first | (with_reducible exact Nat.le_refl _) | (simp; done) | (simp; omega) | omega) _) | (with_reducible refine G.trans ?_ (by assumption))))⟩
              rw [HR.out]; rfl
            · have hb : (pl s a == n) = false := beq_false_of_ne hm
              have HNS := Lib.hid (show ∀ s', 0 ≤ s' → s' < s + 1 → pl s' a ≠ n by
                intro s' p q
                by_cases e : s' = s
                · rw [e]; exact hm
                · exact hns.out s' p (by omega))
              clear hm
              go_wp2_with fail
              refine (Place_any s a _ ⟨⟨s0, s6⟩, a0, a2⟩).mono ?_
              rintro e w1 ⟨rfl, hG3⟩
              go_wp2_with fail
              go_roundg ((7 - (s + 1)).toNat)
              case measure => have := HGS.out; omega
              case rel => exact ⟨s + 1, rfl, rfl, by omega, by omega, HNS, by (repeat' (first | (with_reducible exact G.refl _) | (with_reducible assumption) | (with_reducible refine G.drewN ?_ _) | (with_reducible refine G.drew ?_) | (with_reducible refine G.alloc ?_ _) | (with_reducible refine G.setCell ?_ (by first | (with_reducible exact Nat.le_refl _) | (simp; done) | (simp; omega) | omega) _) | (with_reducible refine G.trans ?_ (by assumption))))⟩
  · have hn' : f + 3 = n := by simp [mi] at hn; omega
    clear hb hn
    go_enter Tryd.func24, Tryd.ntmps24
    go_wp2_with fail
    clear hn' f0 f1
    go_loopg [6] 5 (fun g x wr => ∃ a : Int, x = .int .i64 a ∧ g = (3 - a).toNat ∧ -2 ≤ a ∧ a ≤ 3 ∧ Hid (∀ a' s', -2 ≤ a' → a' < a → 0 ≤ s' → s' ≤ 6 → pl s' a' ≠ n) ∧ G w wr)
    case atStart => exact ⟨-2, rfl, by decide, by omega, by omega, Lib.hid (fun a' s' p q => by omega), G.refl _⟩
    case round =>
      obtain ⟨a, rfl, hg, a0, a1, hna, hG⟩ := hrel
      have HG := Lib.hid hg
      clear hg
      by_cases h3 : a = 3
      · exfalso
        subst h3
        have e := HE.out
        exact hna.out (tA n) (tS n) (by omega) (by omega) e.1 e.2.1 e.2.2.2.2
      · have a2 : a ≤ 2 := by omega
        have qa := IntWalk.i64_in (a + 1) (by omega)
        go_wp2_with fail
        go_loopg [7] 7 (fun g x wr => ∃ s : Int, x = .int .i64 s ∧ g = (7 - s).toNat ∧ 0 ≤ s ∧ s ≤ 7 ∧ Hid (∀ s', 0 ≤ s' → s' < s → pl s' a ≠ n) ∧ G w wr)
        case atStart => exact ⟨0, rfl, by decide, by omega, by omega, Lib.hid (fun s' p q => by omega), hG⟩
        case round =>
          obtain ⟨s, rfl, hg, s0, s1, hns, hG2⟩ := hrel
          have HGS := Lib.hid hg
          clear hg
          by_cases h7 : s = 7
          · subst h7
            have HNA := Lib.hid (show ∀ a' s', -2 ≤ a' → a' < a + 1 → 0 ≤ s' → s' ≤ 6 → pl s' a' ≠ n by
              intro a' s' p q u v
              by_cases e : a' = a
              · rw [e]; exact hns.out s' u (by omega)
              · exact hna.out a' s' p (by omega) u v)
            go_wp2_with fail
            go_roundg ((3 - (a + 1)).toNat)
            case measure => have := HG.out; omega
            case rel => exact ⟨a + 1, rfl, rfl, by omega, by omega, HNA, hG2⟩
          · have s6 : s ≤ 6 := by omega
            have qs := IntWalk.i64_in (s + 1) (by omega)
            by_cases hm : pl s a = n
            · have hb : (pl s a == n) = true := by rw [hm]; simp
              have HR := Lib.hid (show R = .tuple #[.int .i64 s, .int .i64 a] by
                obtain ⟨e1, e2⟩ := t_of_pl s0 s6 hm
                rw [hR.out, ← e1, ← e2])
              clear hm
              go_wp2_with fail
              refine (Place_any s a _ ⟨⟨s0, s6⟩, a0, a2⟩).mono ?_
              rintro e w1 ⟨rfl, hG3⟩
              go_wp2_with fail
              go_returns
              refine ⟨?_, by (repeat' (first | (with_reducible exact G.refl _) | (with_reducible assumption) | (with_reducible refine G.drewN ?_ _) | (with_reducible refine G.drew ?_) | (with_reducible refine G.alloc ?_ _) | (with_reducible refine G.setCell ?_ (by first | (with_reducible exact Nat.le_refl _) | (simp; done) | (simp; omega) | omega) _) | (with_reducible refine G.trans ?_ (by assumption))))⟩
              rw [HR.out]; rfl
            · have hb : (pl s a == n) = false := beq_false_of_ne hm
              have HNS := Lib.hid (show ∀ s', 0 ≤ s' → s' < s + 1 → pl s' a ≠ n by
                intro s' p q
                by_cases e : s' = s
                · rw [e]; exact hm
                · exact hns.out s' p (by omega))
              clear hm
              go_wp2_with fail
              refine (Place_any s a _ ⟨⟨s0, s6⟩, a0, a2⟩).mono ?_
              rintro e w1 ⟨rfl, hG3⟩
              go_wp2_with fail
              go_roundg ((7 - (s + 1)).toNat)
              case measure => have := HGS.out; omega
              case rel => exact ⟨s + 1, rfl, rfl, by omega, by omega, HNS, by (repeat' (first | (with_reducible exact G.refl _) | (with_reducible assumption) | (with_reducible refine G.drewN ?_ _) | (with_reducible refine G.drew ?_) | (with_reducible refine G.alloc ?_ _) | (with_reducible refine G.setCell ?_ (by first | (with_reducible exact Nat.le_refl _) | (simp; done) | (simp; omega) | omega) _) | (with_reducible refine G.trans ?_ (by assumption))))⟩
theorem rTonic_any (f : Int) (m : Bool) (w : World) (hf : Sg f) :
    Calls Tryd.prog 24 #[.int .i64 f, .bool m] w fun e w' => e = .returned (.tuple #[.int .i64 (tS (f + mi m)), .int .i64 (tA (f + mi m))]) ∧ G w w' := rTonic_n f _ m w hf rfl
end Go.Proofs.YtdiokagnpiiijaaDoor
