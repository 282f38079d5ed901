import Derived.Test.YtkmmmmbnddkcgaaDoorParse2
import Derived.Test.YtkmmmmbnddkcgaaDoorRefText
/-! The reference's reading of a number and of a fraction. -/
namespace Go.Proofs.YtkmmmmbnddkcgaaDoor
open Go.RowKit QM QP

def NumRIs (s : ByteArray) (start : Nat) (e : Ending) : Prop := e = .returned (.tuple #[.int .i64 ((numR s.data.toList start).1 : Nat), .int .i64 ((numR s.data.toList start).2.1 : Nat), .int .i64 ((numR s.data.toList start).2.2.1 : Nat), .int .i64 ((numR s.data.toList start).2.2.2 : Nat)])
theorem numRIs_of {s : ByteArray} {start : Nat} {a b c d : Int} {x y z t : Nat} (h : numR s.data.toList start = (x, y, z, t)) (h1 : a = x) (h2 : b = y) (h3 : c = z) (h4 : d = t) :
    NumRIs s start (.returned (.tuple #[.int .i64 a, .int .i64 b, .int .i64 c, .int .i64 d])) := by
  unfold NumRIs; rw [h, h1, h2, h3, h4]

/-- what holds at the head of the loop: k bytes are behind, n is the number of at most ten of the digits -/
def RAt (s : ByteArray) (start k n : Nat) : Prop := scanR start (s.data.toList.drop k) (k - start) n = numR s.data.toList start ∧ n < 10 ^ min (k - start) 10
theorem rAt_more {s : ByteArray} {start k n : Nat} (hk : k < s.size) (hs : start ≤ k) (h : RAt s start k n) (h1 : (48 : Int) ≤ (s[k].toNat : Int)) (h2 : (s[k].toNat : Int) ≤ 57) :
    RAt s start (k + 1) (if k - start < 10 then 10 * n + (s[k].toNat - 48) else n) := by
  obtain ⟨e2, e3⟩ := h
  rw [drop_at s k hk] at e2
  unfold scanR at e2
  rw [if_pos (by unfold isDig; simp; omega)] at e2
  have e : k + 1 - start = k - start + 1 := by omega
  refine ⟨by rw [e]; exact e2, ?_⟩
  rw [e]
  split
  · rename_i c
    rw [show min (k - start + 1) 10 = min (k - start) 10 + 1 by omega, Nat.pow_succ]; omega
  · rename_i c
    rw [show min (k - start + 1) 10 = min (k - start) 10 by omega]; exact e3
theorem rAt_small {s : ByteArray} {start k n : Nat} (h : RAt s start k n) : n < 10000000000 := by
  have : 10 ^ min (k - start) 10 ≤ 10 ^ 10 := Nat.pow_le_pow_right (by omega) (by omega)
  have := h.2
  omega
theorem rAt_stop {s : ByteArray} {start k n : Nat} (h : RAt s start k n) (hk : ∀ h : k < s.size, (s[k].toNat : Int) < 48 ∨ 57 < (s[k].toNat : Int)) :
    numR s.data.toList start = doneR start (k - start) n := by
  obtain ⟨e2, e3⟩ := h
  by_cases hz : k < s.size
  · have := hk hz
    rw [drop_at s k hz] at e2
    unfold scanR at e2
    rw [if_neg (by unfold isDig; simp; omega)] at e2
    exact e2.symm
  · rw [drop_end s k (by omega)] at e2
    unfold scanR at e2
    exact e2.symm
theorem rAt_out {s : ByteArray} {start k n : Nat} (hs : start ≤ k) (h : RAt s start k n) (hk : ∀ h : k < s.size, (s[k].toNat : Int) < 48 ∨ 57 < (s[k].toNat : Int)) :
    (k = start ∧ numR s.data.toList start = (0, start, 6, start)) ∨ (k ≠ start ∧ 10 < k - start ∧ numR s.data.toList start = (0, start, 5, start)) ∨
    (k ≠ start ∧ k - start ≤ 10 ∧ numR s.data.toList start = (n, k, 0, 0)) := by
  have st := rAt_stop h hk
  unfold doneR at st
  by_cases c : k = start
  · left; rw [if_pos (by omega)] at st; exact ⟨c, st⟩
  · right
    rw [if_neg (by omega)] at st
    by_cases c2 : 10 < k - start
    · left; rw [if_pos c2] at st; exact ⟨c, c2, st⟩
    · right; rw [if_neg c2, show start + (k - start) = k by omega] at st; exact ⟨c, by omega, st⟩

set_option maxRecDepth 20000 in
set_option maxHeartbeats 1600000 in
theorem rnumber_any (s : ByteArray) (start : Nat) (w : World) (h1 : start ≤ s.size) (h2 : s.size ≤ 1000000) :
    Calls Tryd.prog 63 #[.string s, .int .i64 start] w fun e w' => NumRIs s start e ∧ w = w' := by
  have hl : s.data.toList.length = s.size := by simp
  by_cases hz : start = s.size
  · have e0 : numR s.data.toList start = (0, start, 4, start) := by unfold numR; rw [if_pos (by omega)]
    have E0 := Lib.hid e0
    clear e0 hl
    have z : ((start : Int) == (s.size : Int)) = true := by simp; omega
    go_enter Tryd.func63, Tryd.ntmps63
    go_wp2
    refine bodyPost_ret (v := .tuple #[.int .i64 0, .int .i64 start, .int .i64 4, .int .i64 start]) (by simp [results, Tryd.results63, go_sem]) rfl ⟨numRIs_of E0.out rfl rfl rfl rfl, rfl⟩
  · have e0 : numR s.data.toList start = scanR start (s.data.toList.drop start) 0 0 := by unfold numR; rw [if_neg (by omega)]
    have E0 := Lib.hid e0
    clear e0 hl
    have z : ((start : Int) == (s.size : Int)) = false := by simp; omega
    go_enter Tryd.func63, Tryd.ntmps63
    go_wp2
    go_loop [8, 9] (fun at_ n => ∃ k n' : Nat, at_ = .int .i64 k ∧ n = .int .i64 n' ∧ start ≤ k ∧ k ≤ s.size ∧ RAt s start k n') (fun at_ _ => s.size - (intOf at_).toNat)
    case atStart => exact ⟨start, 0, rfl, rfl, by omega, h1, by rw [Nat.sub_self]; exact E0.out.symm, by simp⟩
    case round =>
      obtain ⟨k, n, rfl, rfl, b1, b2, hid⟩ := hrel
      have b4 := rAt_small hid
      by_cases hd : ∃ h : k < s.size, (48 : Int) ≤ (s[k].toNat : Int) ∧ (s[k].toNat : Int) ≤ 57
      · obtain ⟨hlt, hd1, hd2⟩ := hd
        have more := rAt_more hlt b1 hid hd1 hd2
        by_cases c10 : k - start < 10
        · have d1 : (k : Int) - start < 10 := by omega
          rw [if_pos c10] at more
          have MORE := Lib.hid more
          clear more
          go_wp2
          go_round
          case rel => exact ⟨k + 1, 10 * n + (s[k].toNat - 48), by go_num, by congr 1; omega, by omega, by omega, MORE.out⟩
          case measure => simp [intOf]; omega
        · have d1 : ¬ (k : Int) - start < 10 := by omega
          rw [if_neg c10] at more
          have MORE := Lib.hid more
          clear more
          go_wp2
          go_round
          case rel => exact ⟨k + 1, n, by go_num, rfl, by omega, by omega, MORE.out⟩
          case measure => simp [intOf]; omega
      · have hs : ∀ h : k < s.size, (s[k].toNat : Int) < 48 ∨ 57 < (s[k].toNat : Int) := fun h => by
          by_cases q : (48 : Int) ≤ (s[k].toNat : Int)
          · by_cases r : (s[k].toNat : Int) ≤ 57
            · exact absurd ⟨h, q, r⟩ hd
            · exact .inr (by omega)
          · exact .inl (by omega)
        have ho := rAt_out b1 hid hs
        have HS := Lib.hid hs
        clear hs hd
        rcases ho with ⟨o1, o2⟩ | ⟨o1, o3, o2⟩ | ⟨o1, o3, o2⟩
        · have O2 := Lib.hid o2
          subst o1
          clear o2
          by_cases hlt : k < s.size
          · rcases HS.out hlt with f1 | f1
            · have f2 : ¬ (48 : Int) ≤ (s[k].toNat : Int) := by omega
              clear f1
              go_wp2
              refine bodyPost_ret (v := .tuple #[.int .i64 0, .int .i64 k, .int .i64 6, .int .i64 k]) (by simp [results, Tryd.results63, go_sem]) rfl ⟨numRIs_of O2.out rfl rfl rfl rfl, rfl⟩
            · have f2 : (48 : Int) ≤ (s[k].toNat : Int) := by omega
              have f3 : ¬ (s[k].toNat : Int) ≤ 57 := by omega
              clear f1
              go_wp2
              refine bodyPost_ret (v := .tuple #[.int .i64 0, .int .i64 k, .int .i64 6, .int .i64 k]) (by simp [results, Tryd.results63, go_sem]) rfl ⟨numRIs_of O2.out rfl rfl rfl rfl, rfl⟩
          · go_wp2
            refine bodyPost_ret (v := .tuple #[.int .i64 0, .int .i64 k, .int .i64 6, .int .i64 k]) (by simp [results, Tryd.results63, go_sem]) rfl ⟨numRIs_of O2.out rfl rfl rfl rfl, rfl⟩
        · have O2 := Lib.hid o2
          clear o2
          have z1 : ((k : Int) == (start : Int)) = false := by simp; omega
          have z2 : (10 : Int) < (k : Int) - start := by omega
          by_cases hlt : k < s.size
          · rcases HS.out hlt with f1 | f1
            · have f2 : ¬ (48 : Int) ≤ (s[k].toNat : Int) := by omega
              clear f1
              go_wp2
              refine bodyPost_ret (v := .tuple #[.int .i64 0, .int .i64 start, .int .i64 5, .int .i64 start]) (by simp [results, Tryd.results63, go_sem]) rfl ⟨numRIs_of O2.out rfl rfl rfl rfl, rfl⟩
            · have f2 : (48 : Int) ≤ (s[k].toNat : Int) := by omega
              have f3 : ¬ (s[k].toNat : Int) ≤ 57 := by omega
              clear f1
              go_wp2
              refine bodyPost_ret (v := .tuple #[.int .i64 0, .int .i64 start, .int .i64 5, .int .i64 start]) (by simp [results, Tryd.results63, go_sem]) rfl ⟨numRIs_of O2.out rfl rfl rfl rfl, rfl⟩
          · go_wp2
            refine bodyPost_ret (v := .tuple #[.int .i64 0, .int .i64 start, .int .i64 5, .int .i64 start]) (by simp [results, Tryd.results63, go_sem]) rfl ⟨numRIs_of O2.out rfl rfl rfl rfl, rfl⟩
        · have O2 := Lib.hid o2
          clear o2
          have z1 : ((k : Int) == (start : Int)) = false := by simp; omega
          have z2 : ¬ (10 : Int) < (k : Int) - start := by omega
          by_cases hlt : k < s.size
          · rcases HS.out hlt with f1 | f1
            · have f2 : ¬ (48 : Int) ≤ (s[k].toNat : Int) := by omega
              clear f1
              go_wp2
              refine bodyPost_ret (v := .tuple #[.int .i64 n, .int .i64 k, .int .i64 0, .int .i64 0]) (by simp [results, Tryd.results63, go_sem]) rfl ⟨numRIs_of O2.out rfl rfl rfl rfl, rfl⟩
            · have f2 : (48 : Int) ≤ (s[k].toNat : Int) := by omega
              have f3 : ¬ (s[k].toNat : Int) ≤ 57 := by omega
              clear f1
              go_wp2
              refine bodyPost_ret (v := .tuple #[.int .i64 n, .int .i64 k, .int .i64 0, .int .i64 0]) (by simp [results, Tryd.results63, go_sem]) rfl ⟨numRIs_of O2.out rfl rfl rfl rfl, rfl⟩
          · go_wp2
            refine bodyPost_ret (v := .tuple #[.int .i64 n, .int .i64 k, .int .i64 0, .int .i64 0]) (by simp [results, Tryd.results63, go_sem]) rfl ⟨numRIs_of O2.out rfl rfl rfl rfl, rfl⟩
end Go.Proofs.YtkmmmmbnddkcgaaDoor
