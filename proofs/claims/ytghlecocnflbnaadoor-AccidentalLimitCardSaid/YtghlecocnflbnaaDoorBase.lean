import Derived.Test.YtghlecocnflbnaaDoorAMath2
import Derived.WalkKit
import Derived.WalkSpells
import Derived.WalkLawsBesides
import Derived.Handy
import Derived.Outline
import Derived.Lib.Hide
import Derived.Deep.QuietTactic
import Derived.BigQuiet
import Derived.Deep.RegionHeld3
import Derived.Deep.LoopGhost
/-! Signatures: the smallest functions. -/
namespace Go.Proofs.YtghlecocnflbnaaDoor
open Go.RowKit
attribute [local go_sem] World.cell?_alloc_some

/-- the world has at most new blocks -/
def G (w w' : World) : Prop := Below w.heap.size w w'
theorem G.refl (w : World) : G w w := Below.refl _ _
theorem G.trans {a b c : World} (h : G a b) (k : G b c) : G a c := Below.trans h (Below.mono k h.size)
theorem G.alloc {a b : World} (h : G a b) (o : Obj) : G a (b.alloc o) := Below.alloc h h.size o
theorem G.drew {a b : World} (h : G a b) : G a b.drew := Below.drew h
theorem G.drewN {a b : World} (h : G a b) (n : Nat) : G a (b.drewN n) := below_drewN h n
theorem G.setCell {a b : World} (h : G a b) {p : Addr} (hp : a.heap.size ≤ p.block) (u : Value) : G a (b.setCell p u) := Below.setCell h hp u
theorem G.cell {a b : World} (h : G a b) {p : Addr} (hp : p.block < a.heap.size) : b.cell? p = a.cell? p := Below.cell h hp
theorem G.frozen {a b : World} (h : G a b) {p : Addr} (hp : p.block < a.heap.size) : b.frozen? p = a.frozen? p := Below.frozen h hp
theorem cell_lt {w : World} {p : Addr} {v : Value} (h : w.cell? p = some v) : p.block < w.heap.size := by
  unfold World.cell? at h
  by_cases c : p.block < w.heap.size
  · exact c
  · rw [Array.getElem?_eq_none (by omega)] at h; simp at h
theorem G.at {a b : World} (h : G a b) {p : Addr} {v : Value} (hp : a.cell? p = some v) : b.cell? p = some v := (h.cell (cell_lt hp)).trans hp
theorem ret_int {k : IntKind} {a b : Int} (h : a = b) : Ending.returned (.int k a) = .returned (.int k b) := by rw [h]
theorem grown_of_G {A C : World} (h : G A C) (row : Option Nat) : A.grownBy C row := ⟨h.os, h.tape, h.output, h.size, fun k hk _ => h.block k hk⟩
theorem own_later {W W' : World} {base : Nat} {e : TypeId} {size k : Nat} {v : Value} {xs : List Value} (h : W.ownsRow base e size v k xs) (g : G W W') : W'.ownsRow base e size v k xs := by
  refine h.kept (grown_of_G g none) ?_
  rcases h.2 with ⟨rfl, _⟩ | ⟨b, cap, cur, rfl, _, _, _⟩
  · exact .inl rfl
  · exact .inr (by simp [Value.ownBlock])
theorem own_base {W : World} {base base' : Nat} {e : TypeId} {size k : Nat} {v : Value} {xs : List Value} (h : W.ownsRow base e size v k xs) (hb : base' ≤ base) : W.ownsRow base' e size v k xs := by
  refine ⟨h.1, ?_⟩
  rcases h.2 with h | ⟨g, cap, cur, h1, h2, h3⟩
  · exact .inl h
  · exact .inr ⟨g, cap, cur, h1, Nat.le_trans hb h2, h3⟩

/-- the table of the program: the order of sharps -/
structure Tab (w : World) : Prop where
  s0 : w.cell? ⟨0, 0, none⟩ = some (.int .i64 3)
  s1 : w.cell? ⟨0, 1, none⟩ = some (.int .i64 0)
  s2 : w.cell? ⟨0, 2, none⟩ = some (.int .i64 4)
  s3 : w.cell? ⟨0, 3, none⟩ = some (.int .i64 1)
  s4 : w.cell? ⟨0, 4, none⟩ = some (.int .i64 5)
  s5 : w.cell? ⟨0, 5, none⟩ = some (.int .i64 2)
  s6 : w.cell? ⟨0, 6, none⟩ = some (.int .i64 6)
theorem Tab.later {a b : World} (h : Tab a) (g : G a b) : Tab b :=
  ⟨g.at h.s0, g.at h.s1, g.at h.s2, g.at h.s3, g.at h.s4, g.at h.s5, g.at h.s6⟩

/-- blocks of cells in a later world -/
theorem tri_at {W w1 : World} {n : Nat} {a b c : Value} {t : TypeId} (hs : W.heap.size = n) (h : G (W.alloc (.cells #[a, b, c] t)) w1) :
    w1.cell? ⟨n, 0, none⟩ = some a ∧ w1.cell? ⟨n, 1, none⟩ = some b ∧ w1.cell? ⟨n, 2, none⟩ = some c := by
  subst hs
  refine ⟨?_, ?_, ?_⟩ <;> (rw [h.cell (by simp)]; go_cell)
theorem two_at {W w1 : World} {n : Nat} {a b : Value} {t : TypeId} (hs : W.heap.size = n) (h : G (W.alloc (.cells #[a, b] t)) w1) :
    w1.cell? ⟨n, 0, none⟩ = some a ∧ w1.cell? ⟨n, 1, none⟩ = some b := by
  subst hs
  refine ⟨?_, ?_⟩ <;> (rw [h.cell (by simp)]; go_cell)

def ck (f : Int) : Int := if Sg f then 0 else 2
theorem ck_ok {f : Int} (h : Sg f) : ck f = 0 := if_pos h
theorem ck_bad {f : Int} (h : ¬ Sg f) : ck f = 2 := if_neg h

set_option maxHeartbeats 800000 in
theorem Check_any (f : Int) (w : World) : Calls Tryd.prog 41 #[.int .i64 f] w fun e w' => e = .returned (.int .i64 (ck f)) ∧ w = w' := by
  by_cases h1 : f < -7
  · rw [ck_bad (by unfold Sg; omega)]
    go_enter Tryd.func41, Tryd.ntmps41
    go_wp2
    go_ret
    exact ⟨rfl, rfl⟩
  by_cases h2 : 7 < f
  · rw [ck_bad (by unfold Sg; omega)]
    go_enter Tryd.func41, Tryd.ntmps41
    go_wp2
    go_ret
    exact ⟨rfl, rfl⟩
  · rw [ck_ok (by unfold Sg; omega)]
    go_enter Tryd.func41, Tryd.ntmps41
    go_wp2
    go_ret
    exact ⟨rfl, rfl⟩

def Cl (s a : Int) : Prop := (0 ≤ s ∧ s ≤ 6) ∧ -2 ≤ a ∧ a ≤ 2
instance (s a : Int) : Decidable (Cl s a) := by unfold Cl; infer_instance
set_option maxHeartbeats 1600000 in
theorem isClass_any (s a : Int) (w : World) : Calls Tryd.prog 43 #[.int .i64 s, .int .i64 a] w fun e w' => e = .returned (.bool (decide (Cl s a))) ∧ w = w' := by
  by_cases h1 : s < 0
  · rw [decide_eq_false (by unfold Cl; omega)]
    go_enter Tryd.func43, Tryd.ntmps43
    go_wp2
    go_ret
    exact ⟨rfl, rfl⟩
  by_cases h2 : 7 ≤ s
  · rw [decide_eq_false (by unfold Cl; omega)]
    go_enter Tryd.func43, Tryd.ntmps43
    go_wp2
    go_ret
    exact ⟨rfl, rfl⟩
  by_cases h3 : a < -2
  · rw [decide_eq_false (by unfold Cl; omega)]
    go_enter Tryd.func43, Tryd.ntmps43
    go_wp2
    go_ret
    exact ⟨rfl, rfl⟩
  by_cases h4 : a ≤ 2
  · rw [decide_eq_true (by unfold Cl; omega)]
    go_enter Tryd.func43, Tryd.ntmps43
    go_wp2
    go_ret
    exact ⟨rfl, rfl⟩
  · rw [decide_eq_false (by unfold Cl; omega)]
    go_enter Tryd.func43, Tryd.ntmps43
    go_wp2
    go_ret
    exact ⟨rfl, rfl⟩

/-- the order of sharps by value, indexed -/
theorem idx7 (k : Int) (h0 : 0 ≤ k) (h1 : k ≤ 6) (w : World) :
    (Instr.index 81 (.agg #[.int .i64 3, .int .i64 0, .int .i64 4, .int .i64 1, .int .i64 5, .int .i64 2, .int .i64 6]) (.int .i64 k)).run Tryd.prog w = .ok (.int .i64 (sh k)) w := by
  rcases seven h0 h1 with rfl | rfl | rfl | rfl | rfl | rfl | rfl <;> simp [Instr.index, run_underlying Tryd.underlying81, asIntOf, go_sem, sh]
theorem rk_of_none {s : Int} (h : ∀ j, 0 ≤ j → j < 7 → sh j ≠ s) : rk s = -1 := by
  by_cases c : 0 ≤ s ∧ s ≤ 6
  · exact absurd (sh_rk c.1 c.2) (h _ (rk_in c.1 c.2).1 (by have := (rk_in c.1 c.2).2; omega))
  · exact rk_out (by omega)

set_option maxHeartbeats 3200000 in
theorem rank_any (s : Int) (w : World) (hT : Tab w) : Calls Tryd.prog 45 #[.int .i64 s] w fun e w' => e = .returned (.int .i64 (rk s)) ∧ w = w' := by
  obtain ⟨x0, x1, x2, x3, x4, x5, x6⟩ := hT
  obtain ⟨R, hR⟩ : ∃ z : Int, Hid (z = rk s) := ⟨_, rfl⟩
  rw [← hR.out]
  go_enter Tryd.func45, Tryd.ntmps45
  go_wp2_with fail
  clear x0 x1 x2 x3 x4 x5 x6
  go_loopg [6] 7 (fun g x wr => ∃ k : Int, x = .int .i64 k ∧ g = (7 - k).toNat ∧ 0 ≤ k ∧ k ≤ 7 ∧ Hid (∀ j, 0 ≤ j → j < k → sh j ≠ s) ∧ wr = w)
  case atStart => exact ⟨0, rfl, by simp, by omega, by omega, Lib.hid (fun j p q => by omega), rfl⟩
  case round =>
    obtain ⟨k, rfl, hg, hk0, hk, hno, rfl⟩ := hrel
    have HG := Lib.hid hg
    clear hg
    by_cases hk7 : k = 7
    · subst hk7
      have HR := Lib.hid (show R = -1 by rw [hR.out]; exact rk_of_none hno.out)
      go_wp2_with fail
      go_ret
      exact ⟨ret_int HR.out.symm, rfl⟩
    · have h6 : k ≤ 6 := by omega
      have hix := fun wz => idx7 _ hk0 h6 wz
      have q := IntWalk.i64_in (k + 1) (by omega)
      by_cases hm : sh k = s
      · have hb : (sh k == s) = true := by rw [hm]; simp
        have HR := Lib.hid (show R = k by rw [hR.out, ← hm, rk_sh hk0 h6])
        clear hm
        go_wp2_with fail
        go_ret
        exact ⟨ret_int HR.out.symm, rfl⟩
      · have hb : (sh k == s) = false := beq_false_of_ne hm
        have HNO := Lib.hid (show ∀ j, 0 ≤ j → j < k + 1 → sh j ≠ s by
          intro j p r
          by_cases e : j = k
          · rw [e]; exact hm
          · exact hno.out j p (by omega))
        clear hm
        go_wp2_with fail
        go_roundg ((7 - (k + 1)).toNat)
        case measure => have := HG.out; omega
        case rel => exact ⟨k + 1, rfl, rfl, by omega, by omega, HNO, rfl⟩

set_option maxHeartbeats 1600000 in
theorem alteration_any (f s : Int) (w : World) (hf : Sg f) (hT : Tab w) : Calls Tryd.prog 44 #[.int .i64 f, .int .i64 s] w fun e w' => e = .returned (.int .i64 (al f s)) ∧ w = w' := by
  have HT := Lib.hid hT
  have hb := rk_bd s
  obtain ⟨f0, f1⟩ := hf
  obtain ⟨R, hR⟩ : ∃ z : Int, Hid (z = rk s) := ⟨_, rfl⟩
  obtain ⟨A, hA⟩ : ∃ z : Int, Hid (z = al f s) := ⟨_, rfl⟩
  rw [← hA.out]
  rw [← hR.out] at hb
  clear hT
  by_cases c : R < f
  · have HA := Lib.hid (show A = 1 by rw [hA.out]; unfold al; rw [← hR.out, if_pos c])
    go_enter Tryd.func44, Tryd.ntmps44
    go_wp2_with fail
    refine (rank_any s _ HT.out).mono ?_
    rintro e w1 ⟨rfl, rfl⟩
    rw [← hR.out]
    go_wp2_with fail
    go_ret
    exact ⟨ret_int HA.out.symm, rfl⟩
  by_cases d : 6 - R < -f
  · have HA := Lib.hid (show A = -1 by rw [hA.out]; unfold al; rw [← hR.out, if_neg c, if_pos d])
    go_enter Tryd.func44, Tryd.ntmps44
    go_wp2_with fail
    refine (rank_any s _ HT.out).mono ?_
    rintro e w1 ⟨rfl, rfl⟩
    rw [← hR.out]
    go_wp2_with fail
    go_ret
    exact ⟨ret_int HA.out.symm, rfl⟩
  · have HA := Lib.hid (show A = 0 by rw [hA.out]; unfold al; rw [← hR.out, if_neg c, if_neg d])
    go_enter Tryd.func44, Tryd.ntmps44
    go_wp2_with fail
    refine (rank_any s _ HT.out).mono ?_
    rintro e w1 ⟨rfl, rfl⟩
    rw [← hR.out]
    go_wp2_with fail
    go_ret
    exact ⟨ret_int HA.out.symm, rfl⟩

def alV (f s : Int) : Int := if Sg f ∧ (0 ≤ s ∧ s ≤ 6) then al f s else 0
def alE (f s : Int) : Int := if Sg f then (if 0 ≤ s ∧ s ≤ 6 then 0 else 18) else 2
set_option maxHeartbeats 800000 in
theorem kAlter_any (f s : Int) (w : World) (hT : Tab w) : Calls Tryd.prog 40 #[.int .i64 f, .int .i64 s] w fun e w' => e = .returned (.tuple #[.int .i64 (alV f s), .int .i64 (alE f s)]) ∧ w = w' := by
  have HT := Lib.hid hT
  clear hT
  by_cases h : Sg f
  · have HS := Lib.hid h
    by_cases c : 0 ≤ s ∧ s ≤ 6
    · have HV := Lib.hid (show alV f s = al f s ∧ alE f s = 0 by unfold alV alE; rw [if_pos ⟨h, c⟩, if_pos h, if_pos c]; exact ⟨rfl, rfl⟩)
      have HD := Lib.hid (show decide (Cl s 0) = true by rw [decide_eq_true]; unfold Cl; omega)
      rw [HV.out.1, HV.out.2]
      clear h HV c
      go_enter Tryd.func40, Tryd.ntmps40
      go_wp2_with fail
      refine (Check_any f _).mono ?_
      rintro e w1 ⟨rfl, rfl⟩
      rw [ck_ok HS.out]
      go_wp2_with fail
      refine (isClass_any s 0 _).mono ?_
      rintro e w1 ⟨rfl, rfl⟩
      rw [HD.out]
      go_wp2_with fail
      refine (alteration_any f s _ HS.out HT.out).mono ?_
      rintro e w1 ⟨rfl, rfl⟩
      go_wp2_with fail
      go_returns
      exact ⟨rfl, rfl⟩
    · have HV := Lib.hid (show alV f s = 0 ∧ alE f s = 18 by unfold alV alE; rw [if_neg (fun k => c k.2), if_pos h, if_neg c]; exact ⟨rfl, rfl⟩)
      have HD := Lib.hid (show decide (Cl s 0) = false by rw [decide_eq_false]; unfold Cl; omega)
      rw [HV.out.1, HV.out.2]
      clear h HV c
      go_enter Tryd.func40, Tryd.ntmps40
      go_wp2_with fail
      refine (Check_any f _).mono ?_
      rintro e w1 ⟨rfl, rfl⟩
      rw [ck_ok HS.out]
      go_wp2_with fail
      refine (isClass_any s 0 _).mono ?_
      rintro e w1 ⟨rfl, rfl⟩
      rw [HD.out]
      go_wp2_with fail
      go_returns
      exact ⟨rfl, rfl⟩
  · have HS := Lib.hid h
    have HV := Lib.hid (show alV f s = 0 ∧ alE f s = 2 by unfold alV alE; rw [if_neg (fun k => h k.1), if_neg h]; exact ⟨rfl, rfl⟩)
    rw [HV.out.1, HV.out.2]
    clear h HV
    go_enter Tryd.func40, Tryd.ntmps40
    go_wp2_with fail
    refine (Check_any f _).mono ?_
    rintro e w1 ⟨rfl, rfl⟩
    rw [ck_bad HS.out]
    go_wp2_with fail
    go_returns
    exact ⟨rfl, rfl⟩

end Go.Proofs.YtghlecocnflbnaaDoor
