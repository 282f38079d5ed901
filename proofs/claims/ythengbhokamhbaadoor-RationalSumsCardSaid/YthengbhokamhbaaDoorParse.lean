import Derived.Test.YthengbhokamhbaaDoorText
import Derived.Test.YthengbhokamhbaaDoorParseMath
/-! Reading a fraction: the program's number, quotient and Parse. -/
namespace Go.Proofs.YthengbhokamhbaaDoor
open Go.RowKit QM QP

theorem drop_at (s : ByteArray) (k : Nat) (h : k < s.size) : s.data.toList.drop k = s[k] :: s.data.toList.drop (k + 1) := by
  rw [List.drop_eq_getElem_cons (by simpa using h)]; rfl
theorem drop_end (s : ByteArray) (k : Nat) (h : s.size ≤ k) : s.data.toList.drop k = [] := List.drop_eq_nil_of_le (by simpa using h)
theorem ret3 {a b c a' b' c' : Int} (h1 : a' = a) (h2 : b' = b) (h3 : c' = c) : Ending.returned (.tuple #[.int .i64 a, .int .i64 b, .int .i64 c]) = .returned (.tuple #[.int .i64 a', .int .i64 b', .int .i64 c']) := by rw [h1, h2, h3]

/-- the program's number: what the walk comes to -/
def NumIs (s : ByteArray) (start : Nat) (e : Ending) : Prop := e = .returned (.tuple #[.int .i64 ((numP s.data.toList start).1 : Nat), .int .i64 ((numP s.data.toList start).2.1 : Nat), .int .i64 ((numP s.data.toList start).2.2 : Nat)])

/-- what holds at the head of number's loop: k bytes are behind, c of them digits, n their number -/
def NumAt (s : ByteArray) (start k c n : Nat) : Prop := k = start + c ∧ scanP s.data.toList.length start (s.data.toList.drop k) c n = numP s.data.toList start ∧ n < 10 ^ c

theorem numAt_more {s : ByteArray} {start k c n : Nat} (hk : k < s.size) (h : NumAt s start k c n) (h1 : (48 : Int) ≤ (s[k].toNat : Int)) (h2 : (s[k].toNat : Int) ≤ 57) (hc : ((c : Int) == 10) = false) :
    NumAt s start (k + 1) (c + 1) (10 * n + (s[k].toNat - 48)) := by
  obtain ⟨e1, e2, e3⟩ := h
  have hc' : c ≠ 10 := by simp at hc; omega
  rw [drop_at s k hk] at e2
  unfold scanP at e2
  rw [if_pos (by unfold isDig; simp; omega), if_neg hc'] at e2
  refine ⟨by omega, e2, ?_⟩
  rw [Nat.pow_succ]; omega
theorem numAt_small {s : ByteArray} {start k c n : Nat} (h : NumAt s start k c n) (hc : c ≤ 10) : n < 10000000000 := by
  have : 10 ^ c ≤ 10 ^ 10 := Nat.pow_le_pow_right (by omega) hc
  have := h.2.2
  omega
theorem numAt_long {s : ByteArray} {start k c n : Nat} (hk : k < s.size) (h : NumAt s start k c n) (h1 : (48 : Int) ≤ (s[k].toNat : Int)) (h2 : (s[k].toNat : Int) ≤ 57) (hc : ((c : Int) == 10) = true) :
    numP s.data.toList start = (0, start, 5) := by
  obtain ⟨e1, e2, e3⟩ := h
  have hc' : c = 10 := by simp at hc; omega
  rw [drop_at s k hk] at e2
  unfold scanP at e2
  rw [if_pos (by unfold isDig; simp; omega), if_pos hc'] at e2
  exact e2.symm
theorem numAt_stop {s : ByteArray} {start k c n : Nat} (h : NumAt s start k c n) (hk : ∀ h : k < s.size, (s[k].toNat : Int) < 48 ∨ 57 < (s[k].toNat : Int)) :
    numP s.data.toList start = doneP s.size start c n := by
  obtain ⟨e1, e2, e3⟩ := h
  have hl : s.data.toList.length = s.size := by simp
  by_cases hz : k < s.size
  · have := hk hz
    rw [drop_at s k hz] at e2
    unfold scanP at e2
    rw [if_neg (by unfold isDig; simp; omega), hl] at e2
    exact e2.symm
  · rw [drop_end s k (by omega)] at e2
    unfold scanP at e2
    rw [hl] at e2
    exact e2.symm
theorem numIs_of {s : ByteArray} {start : Nat} {a b c : Int} {x y z : Nat} (h : numP s.data.toList start = (x, y, z)) (h1 : a = x) (h2 : b = y) (h3 : c = z) : NumIs s start (.returned (.tuple #[.int .i64 a, .int .i64 b, .int .i64 c])) := by
  unfold NumIs; rw [h, h1, h2, h3]

set_option maxHeartbeats 800000 in
theorem number_any (s : ByteArray) (start : Nat) (w : World) (h1 : start ≤ s.size) (h2 : s.size ≤ 1000000) :
    Calls Tryd.prog 33 #[.string s, .int .i64 start] w fun e w' => NumIs s start e ∧ w = w' := by
  go_enter Tryd.func33, Tryd.ntmps33
  go_wp2
  go_loop [4, 5, 7] (fun n at_ c => ∃ k c' n' : Nat, at_ = .int .i64 k ∧ c = .int .i64 c' ∧ n = .int .i64 n' ∧ start ≤ k ∧ k ≤ s.size ∧ c' ≤ 10 ∧ NumAt s start k c' n') (fun _ at_ _ => s.size - (intOf at_).toNat)
  case atStart => exact ⟨start, 0, 0, rfl, rfl, rfl, by omega, h1, by omega, ⟨rfl, rfl, by omega⟩⟩
  case round =>
    obtain ⟨k, c, n, rfl, rfl, rfl, b1, b2, b3, hid⟩ := hrel
    have b4 := numAt_small hid b3
    by_cases hlt : k < s.size
    · go_wp2
      all_goals first
        | (go_round
           case rel =>
             have g1 : (48 : Int) ≤ (s[k].toNat : Int) := by assumption
             have g2 : (s[k].toNat : Int) ≤ 57 := by assumption
             have g3 : ((c : Int) == 10) = false := by assumption
             have g4 : c ≠ 10 := by simp at g3; omega
             exact ⟨k + 1, c + 1, 10 * n + (s[k].toNat - 48), by go_num, by go_num, by congr 1; omega, by omega, by omega, by omega, numAt_more hlt hid g1 g2 g3⟩
           case measure => simp [intOf]; omega)
        | (go_ret3
           refine ⟨numIs_of (numAt_long hlt hid (by assumption) (by assumption) (by assumption)) ?_ ?_ ?_, rfl⟩ <;> rfl)
        | (go_ret3
           have g5 : 0 < c := by assumption
           have st := numAt_stop hid (fun _ => by omega)
           unfold doneP at st
           rw [if_pos g5] at st
           have := hid.1
           refine ⟨numIs_of st ?_ ?_ ?_, rfl⟩ <;> first | rfl | (simp; omega))
        | (go_ret3
           have g5 : ¬ 0 < c := by assumption
           have st := numAt_stop hid (fun _ => by omega)
           have := hid.1
           unfold doneP at st
           rw [if_neg g5, if_neg (by omega)] at st
           refine ⟨numIs_of st ?_ ?_ ?_, rfl⟩ <;> first | rfl | (simp; omega))
    · go_wp2
      · go_ret3
        have g5 : 0 < c := by assumption
        have st := numAt_stop hid (fun _ => by omega)
        unfold doneP at st
        rw [if_pos g5] at st
        have := hid.1
        refine ⟨numIs_of st ?_ ?_ ?_, rfl⟩ <;> first | rfl | (simp; omega)
      · go_ret3
        have g5 : ¬ 0 < c := by assumption
        have st := numAt_stop hid (fun _ => by omega)
        have := hid.1
        unfold doneP at st
        rw [if_neg g5, if_pos (by omega)] at st
        refine ⟨numIs_of st ?_ ?_ ?_, rfl⟩ <;> first | rfl | (simp; omega)

theorem cut_yes {s : ByteArray} (h : neg s.data.toList = true) : Lib.hasPrefix s.data.toList [45] = true ∧ (Lib.trimPrefix s.data.toList [45]).length = s.size - 1 ∧ 1 ≤ s.size := by
  have hl : s.data.toList.length = s.size := by simp
  unfold neg at h
  unfold Lib.trimPrefix Lib.hasPrefix
  cases hs : s.data.toList with
  | nil => rw [hs] at h; simp at h
  | cons x l =>
    rw [hs] at h hl
    simp at h hl
    subst h
    simp
    omega
theorem cut_no {s : ByteArray} (h : neg s.data.toList = false) : Lib.hasPrefix s.data.toList [45] = false ∧ (Lib.trimPrefix s.data.toList [45]).length = s.size := by
  have hl : s.data.toList.length = s.size := by simp
  unfold neg at h
  have hp : Lib.hasPrefix s.data.toList [45] = false := by
    unfold Lib.hasPrefix
    cases hs : s.data.toList with
    | nil => rfl
    | cons x l =>
      rw [hs] at h
      have hx : x ≠ 45 := fun z => by subst z; simp at h
      simp [List.isPrefixOf]
      exact fun z => hx z.symm
  refine ⟨hp, ?_⟩
  unfold Lib.trimPrefix
  rw [hp]
  simp
theorem number_int (s : ByteArray) (st : Int) (k : Nat) (w : World) (hk : st = k) (h1 : k ≤ s.size) (h2 : s.size ≤ 1000000) :
    Calls Tryd.prog 33 #[.string s, .int .i64 st] w fun e w' => NumIs s k e ∧ w = w' := by
  subst hk; exact number_any s k w h1 h2

/-- what quotient comes to -/
def QuotIs (s : ByteArray) (e : Ending) : Prop := e = .returned (.tuple #[.int .i64 (quot s.data.toList).1, .int .i64 (quot s.data.toList).2.1, .int .i64 ((quot s.data.toList).2.2.1 : Nat), .int .i64 ((quot s.data.toList).2.2.2 : Nat)])

set_option maxHeartbeats 1600000 in
theorem quotient_any (s : ByteArray) (w : World) (h2 : s.size ≤ 1000000) :
    Calls Tryd.prog 27 #[.string s] w fun e w' => QuotIs s e ∧ w = w' := by
  have hl : s.data.toList.length = s.size := by simp
  cases hn : neg s.data.toList
  · obtain ⟨c1, c2⟩ := cut_no hn
    go_enter Tryd.func27, Tryd.ntmps27
    go_wp2_with fail
    refine (Tryd.strings_CutPrefix _ _ _).mono ?_
    rintro e w1 ⟨rfl, rfl⟩
    go_wp2_with fail
    refine (number_int s _ 0 _ (by omega) (by omega) h2).mono ?_
    rintro e w2 ⟨he, rfl⟩
    unfold NumIs at he
    have b1 := numP_end s.data.toList 0 (by rw [hl]; omega)
    have b2 := numP_small s.data.toList 0
    have hf : from0 s.data.toList = 0 := by unfold from0; rw [hn]; rfl
    obtain ⟨x, y, z, hP⟩ : ∃ x y z : Nat, numP s.data.toList 0 = (x, y, z) := ⟨_, _, _, rfl⟩
    rw [hP] at he b1 b2
    subst he
    rw [hl] at b1
    obtain ⟨b3, b4⟩ := b1
    have HP : Hid (numP s.data.toList (from0 s.data.toList) = (x, y, z) ∧ neg s.data.toList = false) := ⟨by rw [hf]; exact hP, hn⟩
    simp only [] at b2 b3 b4
    clear hP hf hn c1 c2
    by_cases hz : z = 0
    · subst hz
      by_cases hy : y = s.size
      · subst hy
        have q := quot_one (m := x) HP.out.1 (by rw [HP.out.2]; rfl) (Or.inr hl.symm)
        have HQ := Lib.hid q
        clear q
        go_wp2
        refine bodyPost_ret (v := .tuple #[.int .i64 (x), .int .i64 1, .int .i64 s.size, .int .i64 0]) (by simp [results, Tryd.results27, go_sem]) rfl ⟨?_, rfl⟩
        unfold QuotIs; rw [HQ.out]; rfl
      · have hlt : y < s.size := by omega
        have hb : s.data.toList[y]? = some s[y] := by rw [List.getElem?_eq_getElem (by rw [hl]; exact hlt)]; rfl
        by_cases h47 : s[y] = 47
        · have hP2 : ∃ x y2 z2 : Nat, numP s.data.toList (y + 1) = (x, y2, z2) := ⟨_, _, _, rfl⟩
          obtain ⟨x2, y2, z2, hP2⟩ := hP2
          have q := quot_two (m := x) HP.out.1 (by rw [HP.out.2]; rfl) rfl (by rw [hl]; exact hy) (by rw [hb, h47]) hP2
          have d1 := numP_end s.data.toList (y + 1) (by rw [hl]; omega)
          rw [hP2, hl] at d1
          rw [hl] at q
          have HQ := Lib.hid q
          have HP2 := Lib.hid hP2
          have h48 : ((s[y].toNat : Int) == 47) = true := by rw [h47]; rfl
          have h49 : ((s[y].toNat : Int) != 47) = false := by rw [h47]; rfl
          simp only [] at d1
          clear q hP2 hb h47
          go_wp2_with fail
          refine (number_int s _ (y + 1) _ (by omega) (by omega) h2).mono ?_
          rintro e w3 ⟨he, rfl⟩
          unfold NumIs at he
          rw [HP2.out] at he
          subst he
          by_cases hz2 : z2 = 0
          · subst hz2
            by_cases hy2 : y2 < s.size
            · go_wp2
              refine bodyPost_ret (v := .tuple #[.int .i64 (x), .int .i64 x2, .int .i64 y2, .int .i64 6]) (by simp [results, Tryd.results27, go_sem]) rfl ⟨?_, rfl⟩
              unfold QuotIs; rw [HQ.out, if_pos ⟨trivial, hy2⟩]; rfl
            · go_wp2
              refine bodyPost_ret (v := .tuple #[.int .i64 (x), .int .i64 x2, .int .i64 y2, .int .i64 0]) (by simp [results, Tryd.results27, go_sem]) rfl ⟨?_, rfl⟩
              unfold QuotIs; rw [HQ.out, if_neg (by omega)]; rfl
          · have hz3 : ((z2 : Int) == 0) = false := by simp; omega
            go_wp2
            refine bodyPost_ret (v := .tuple #[.int .i64 (x), .int .i64 x2, .int .i64 y2, .int .i64 z2]) (by simp [results, Tryd.results27, go_sem]) rfl ⟨?_, rfl⟩
            unfold QuotIs; rw [HQ.out, if_neg (by omega)]
        · have q := quot_byte HP.out.1 rfl (by rw [hl]; exact hy) (by rw [hb]; simpa using h47)
          have HQ := Lib.hid q
          have n47 : s[y].toNat ≠ 47 := fun z => h47 (by apply UInt8.toNat_inj.1; rw [z]; rfl)
          have h48 : ((s[y].toNat : Int) == 47) = false := by simp; omega
          have h49 : ((s[y].toNat : Int) != 47) = true := by simp; omega
          clear q hb h47 n47
          go_wp2
          refine bodyPost_ret (v := .tuple #[.int .i64 0, .int .i64 0, .int .i64 y, .int .i64 6]) (by simp [results, Tryd.results27, go_sem]) rfl ⟨?_, rfl⟩
          unfold QuotIs; rw [HQ.out]; rfl
    · have hz3 : ((z : Int) == 0) = false := by simp; omega
      -- an error of the first number
      have q := quot_one (m := x) HP.out.1 (by rw [HP.out.2]; rfl) (Or.inl hz)
      have HQ := Lib.hid q
      clear q
      go_wp2
      refine bodyPost_ret (v := .tuple #[.int .i64 (x), .int .i64 1, .int .i64 y, .int .i64 z]) (by simp [results, Tryd.results27, go_sem]) rfl ⟨?_, rfl⟩
      unfold QuotIs; rw [HQ.out]
  · obtain ⟨c1, c2, c3⟩ := cut_yes hn
    go_enter Tryd.func27, Tryd.ntmps27
    go_wp2_with fail
    refine (Tryd.strings_CutPrefix _ _ _).mono ?_
    rintro e w1 ⟨rfl, rfl⟩
    go_wp2_with fail
    refine (number_int s _ 1 _ (by omega) (by omega) h2).mono ?_
    rintro e w2 ⟨he, rfl⟩
    unfold NumIs at he
    have b1 := numP_end s.data.toList 1 (by rw [hl]; omega)
    have b2 := numP_small s.data.toList 1
    have hf : from0 s.data.toList = 1 := by unfold from0; rw [hn]; rfl
    obtain ⟨x, y, z, hP⟩ : ∃ x y z : Nat, numP s.data.toList 1 = (x, y, z) := ⟨_, _, _, rfl⟩
    rw [hP] at he b1 b2
    subst he
    rw [hl] at b1
    obtain ⟨b3, b4⟩ := b1
    have HP : Hid (numP s.data.toList (from0 s.data.toList) = (x, y, z) ∧ neg s.data.toList = true) := ⟨by rw [hf]; exact hP, hn⟩
    simp only [] at b2 b3 b4
    clear hP hf hn c1 c2
    by_cases hz : z = 0
    · subst hz
      by_cases hy : y = s.size
      · subst hy
        have q := quot_one (m := -(x : Int)) HP.out.1 (by rw [HP.out.2]; rfl) (Or.inr hl.symm)
        have HQ := Lib.hid q
        clear q
        go_wp2
        refine bodyPost_ret (v := .tuple #[.int .i64 (-(x : Int)), .int .i64 1, .int .i64 s.size, .int .i64 0]) (by simp [results, Tryd.results27, go_sem]) rfl ⟨?_, rfl⟩
        unfold QuotIs; rw [HQ.out]; rfl
      · have hlt : y < s.size := by omega
        have hb : s.data.toList[y]? = some s[y] := by rw [List.getElem?_eq_getElem (by rw [hl]; exact hlt)]; rfl
        by_cases h47 : s[y] = 47
        · have hP2 : ∃ x y2 z2 : Nat, numP s.data.toList (y + 1) = (x, y2, z2) := ⟨_, _, _, rfl⟩
          obtain ⟨x2, y2, z2, hP2⟩ := hP2
          have q := quot_two (m := -(x : Int)) HP.out.1 (by rw [HP.out.2]; rfl) rfl (by rw [hl]; exact hy) (by rw [hb, h47]) hP2
          have d1 := numP_end s.data.toList (y + 1) (by rw [hl]; omega)
          rw [hP2, hl] at d1
          rw [hl] at q
          have HQ := Lib.hid q
          have HP2 := Lib.hid hP2
          have h48 : ((s[y].toNat : Int) == 47) = true := by rw [h47]; rfl
          have h49 : ((s[y].toNat : Int) != 47) = false := by rw [h47]; rfl
          simp only [] at d1
          clear q hP2 hb h47
          go_wp2_with fail
          refine (number_int s _ (y + 1) _ (by omega) (by omega) h2).mono ?_
          rintro e w3 ⟨he, rfl⟩
          unfold NumIs at he
          rw [HP2.out] at he
          subst he
          by_cases hz2 : z2 = 0
          · subst hz2
            by_cases hy2 : y2 < s.size
            · go_wp2
              refine bodyPost_ret (v := .tuple #[.int .i64 (-(x : Int)), .int .i64 x2, .int .i64 y2, .int .i64 6]) (by simp [results, Tryd.results27, go_sem]) rfl ⟨?_, rfl⟩
              unfold QuotIs; rw [HQ.out, if_pos ⟨trivial, hy2⟩]; rfl
            · go_wp2
              refine bodyPost_ret (v := .tuple #[.int .i64 (-(x : Int)), .int .i64 x2, .int .i64 y2, .int .i64 0]) (by simp [results, Tryd.results27, go_sem]) rfl ⟨?_, rfl⟩
              unfold QuotIs; rw [HQ.out, if_neg (by omega)]; rfl
          · have hz3 : ((z2 : Int) == 0) = false := by simp; omega
            go_wp2
            refine bodyPost_ret (v := .tuple #[.int .i64 (-(x : Int)), .int .i64 x2, .int .i64 y2, .int .i64 z2]) (by simp [results, Tryd.results27, go_sem]) rfl ⟨?_, rfl⟩
            unfold QuotIs; rw [HQ.out, if_neg (by omega)]
        · have q := quot_byte HP.out.1 rfl (by rw [hl]; exact hy) (by rw [hb]; simpa using h47)
          have HQ := Lib.hid q
          have n47 : s[y].toNat ≠ 47 := fun z => h47 (by apply UInt8.toNat_inj.1; rw [z]; rfl)
          have h48 : ((s[y].toNat : Int) == 47) = false := by simp; omega
          have h49 : ((s[y].toNat : Int) != 47) = true := by simp; omega
          clear q hb h47 n47
          go_wp2
          refine bodyPost_ret (v := .tuple #[.int .i64 0, .int .i64 0, .int .i64 y, .int .i64 6]) (by simp [results, Tryd.results27, go_sem]) rfl ⟨?_, rfl⟩
          unfold QuotIs; rw [HQ.out]; rfl
    · have hz3 : ((z : Int) == 0) = false := by simp; omega
      -- an error of the first number
      have q := quot_one (m := -(x : Int)) HP.out.1 (by rw [HP.out.2]; rfl) (Or.inl hz)
      have HQ := Lib.hid q
      clear q
      go_wp2
      refine bodyPost_ret (v := .tuple #[.int .i64 (-(x : Int)), .int .i64 1, .int .i64 y, .int .i64 z]) (by simp [results, Tryd.results27, go_sem]) rfl ⟨?_, rfl⟩
      unfold QuotIs; rw [HQ.out]
end Go.Proofs.YthengbhokamhbaaDoor
