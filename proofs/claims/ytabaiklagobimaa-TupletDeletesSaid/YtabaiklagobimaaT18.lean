import Derived.Test.YtabaiklagobimaaT14
/-! Tuplets: whether two lists are equal, of the program and of the law. -/
namespace Go.Proofs.Ytabaiklagobimaa
open Go.RowKit
attribute [local go_sem] World.cell?_alloc_some

theorem neq_same (f c a n f' c' a' n' : Int) (w : World) (h : ¬ (⟨f, c, a, n⟩ : Tu) = ⟨f', c', a', n'⟩) : Sem.run Try.prog (binOp BinOp.neq 39 (Value.agg #[.int .i64 f, .int .i64 c, .int .i64 a, .int .i64 n]) (Value.agg #[.int .i64 f', .int .i64 c', .int .i64 a', .int .i64 n'])) w = .ok (.bool true) w := by
  simp only [Tu.mk.injEq] at h
  by_cases h1 : f = f'
  · subst h1
    by_cases h2 : c = c'
    · subst h2
      by_cases h3 : a = a'
      · subst h3
        have h4 : ¬ n = n' := fun e => h ⟨rfl, rfl, rfl, e⟩
        simp [go_sem, h4]
      · simp [go_sem, h3]
    · simp [go_sem, h2]
  · simp [go_sem, h1]
theorem neq_sEqual (f c a n f' c' a' n' : Int) (w : World) (h : ¬ (⟨f, c, a, n⟩ : Tu) = ⟨f', c', a', n'⟩) : Sem.run Try.prog (binOp BinOp.neq 52 (Value.agg #[.int .i64 f, .int .i64 c, .int .i64 a, .int .i64 n]) (Value.agg #[.int .i64 f', .int .i64 c', .int .i64 a', .int .i64 n'])) w = .ok (.bool true) w := by
  simp only [Tu.mk.injEq] at h
  by_cases h1 : f = f'
  · subst h1
    by_cases h2 : c = c'
    · subst h2
      by_cases h3 : a = a'
      · subst h3
        have h4 : ¬ n = n' := fun e => h ⟨rfl, rfl, rfl, e⟩
        simp [go_sem, h4]
      · simp [go_sem, h3]
    · simp [go_sem, h2]
  · simp [go_sem, h1]

set_option maxRecDepth 100000 in
set_option maxHeartbeats 6400000 in
theorem same_any (a b : Option Addr) (L M : List Tu) (n m c d : Nat) (w : World) (hn : L.length = n) (hm : M.length = m) (hn2 : n ≤ 1000) (h1 : TusAt w a L) (h2 : TusAt w b M) :
    Calls Try.prog 18 #[.slice a n c, .slice b m d] w fun e w' => e = .returned (.bool (decide (L = M))) ∧ G w w' := by
  have H1 := Lib.hid h1
  have H2 := Lib.hid h2
  have HN := Lib.hid (And.intro hn (And.intro hm hn2))
  obtain ⟨R, hR⟩ : ∃ z : Bool, Hid (decide (L = M) = z) := ⟨_, rfl⟩
  rw [hR.out]
  clear h1 h2 hn hm hn2
  by_cases e0 : n = m
  rotate_left
  · have HR := Lib.hid (show R = false by rw [← hR.out]; exact decide_eq_false (fun h => e0 (by have := HN.out; rw [h] at this; omega)))
    have e1 : ¬ ((n : Int) = (m : Int)) := by omega
    have e2 : ((n : Int) == (m : Int)) = false := beq_false_of_ne e1
    go_enter Try.func18, Try.ntmps18
    go_wp2_with fail
    go_ret
    exact ⟨by rw [HR.out]; first | done | rfl, by (repeat' (first | (with_reducible exact G.refl _) | (with_reducible assumption) | (with_reducible refine G.drewN ?_ _) | (with_reducible refine G.drew ?_) | (with_reducible refine G.alloc ?_ _) | (with_reducible refine G.setCell ?_ (by first | (with_reducible exact Nat.le_refl _) | (simp; done) | (simp; omega) | omega) _) | (with_reducible refine G.trans ?_ (by assumption))))⟩
  subst e0
  go_enter Try.func18, Try.ntmps18
  go_wp2_with fail
  go_loopg [5] n (fun q x wr => ∃ i : Nat, x = .int .i64 i ∧ q = n - i ∧ i ≤ n ∧ Hid (L.take i = M.take i) ∧ G w wr)
  case atStart => exact ⟨0, rfl, by omega, by omega, Lib.hid (by simp), by (repeat' (first | (with_reducible exact G.refl _) | (with_reducible assumption) | (with_reducible refine G.drewN ?_ _) | (with_reducible refine G.drew ?_) | (with_reducible refine G.alloc ?_ _) | (with_reducible refine G.setCell ?_ (by first | (with_reducible exact Nat.le_refl _) | (simp; done) | (simp; omega) | omega) _) | (with_reducible refine G.trans ?_ (by assumption))))⟩
  case round =>
    obtain ⟨i, rfl, hq, hi, hE, gr⟩ := hrel
    have HQ := Lib.hid hq
    clear hq
    by_cases hin : i < n
    · obtain ⟨⟨f, cc, aa, nn⟩, hx⟩ : ∃ z, L[i]? = some z := ⟨L[i]'(by have := HN.out; omega), List.getElem?_eq_getElem (by have := HN.out; omega)⟩
      obtain ⟨⟨f', c', a', n'⟩, hy⟩ : ∃ z, M[i]? = some z := ⟨M[i]'(by have := HN.out; omega), List.getElem?_eq_getElem (by have := HN.out; omega)⟩
      rcases H1.out with hz | ⟨b0, o0, rfl, f0⟩
      · rw [hz] at hx; simp at hx
      rcases H2.out with hz | ⟨b2, o2, rfl, f2⟩
      · rw [hz] at hy; simp at hy
      obtain ⟨x0, x1, x2, x3⟩ := (f0 i _ hx).later gr
      obtain ⟨y0, y1, y2, y3⟩ := (f2 i _ hy).later gr
      dsimp only at x0 x1 x2 x3 y0 y1 y2 y3
      have b1 : (0 : Int) ≤ (i : Int) := by omega
      have b2 : (i : Int) < (n : Int) := by omega
      have q1 := IntWalk.i64_in ((i : Int) + 1) (by have := HN.out; omega)
      have HXY := Lib.hid (And.intro hx hy)
      clear f0 f2 hx hy
      by_cases et : (⟨f, cc, aa, nn⟩ : Tu) = ⟨f', c', a', n'⟩
      · simp only [Tu.mk.injEq] at et
        obtain ⟨rfl, rfl, rfl, rfl⟩ := et
        have HE2 := Lib.hid (show L.take (i + 1) = M.take (i + 1) by rw [List.take_add_one, List.take_add_one, hE.out, HXY.out.1, HXY.out.2])
        go_wp2_with fail
        go_big_region
        all_goals
          go_wp2_with fail
          go_roundg (n - (i + 1))
          case measure => have := HQ.out; omega
          case rel => exact ⟨i + 1, by go_num, rfl, by omega, HE2, by (repeat' (first | (with_reducible exact G.refl _) | (with_reducible assumption) | (with_reducible refine G.drewN ?_ _) | (with_reducible refine G.drew ?_) | (with_reducible refine G.alloc ?_ _) | (with_reducible refine G.setCell ?_ (by first | (with_reducible exact Nat.le_refl _) | (simp; done) | (simp; omega) | omega) _) | (with_reducible refine G.trans ?_ (by assumption))))⟩
      · have HR := Lib.hid (show R = false by rw [← hR.out]; exact decide_eq_false (fun h => et (by have h1 := HXY.out.1; rw [h, HXY.out.2] at h1; exact (Option.some.inj h1).symm)))
        have hne := fun w => neq_same f cc aa nn f' c' a' n' w et
        clear et
        go_wp2_with fail
        go_big_region
        all_goals
          go_wp2_with fail
          go_ret
          exact ⟨by rw [HR.out]; first | done | rfl, by (repeat' (first | (with_reducible exact G.refl _) | (with_reducible assumption) | (with_reducible refine G.drewN ?_ _) | (with_reducible refine G.drew ?_) | (with_reducible refine G.alloc ?_ _) | (with_reducible refine G.setCell ?_ (by first | (with_reducible exact Nat.le_refl _) | (simp; done) | (simp; omega) | omega) _) | (with_reducible refine G.trans ?_ (by assumption))))⟩
    · have hii : i = n := by omega
      have HR := Lib.hid (show R = true by
        have h := hE.out
        rw [List.take_of_length_le (by have := HN.out; omega), List.take_of_length_le (by have := HN.out; omega)] at h
        rw [← hR.out]; exact decide_eq_true h)
      subst hii
      go_wp2_with fail
      go_ret
      exact ⟨by rw [HR.out]; first | done | rfl, by (repeat' (first | (with_reducible exact G.refl _) | (with_reducible assumption) | (with_reducible refine G.drewN ?_ _) | (with_reducible refine G.drew ?_) | (with_reducible refine G.alloc ?_ _) | (with_reducible refine G.setCell ?_ (by first | (with_reducible exact Nat.le_refl _) | (simp; done) | (simp; omega) | omega) _) | (with_reducible refine G.trans ?_ (by assumption))))⟩

set_option maxRecDepth 100000 in
set_option maxHeartbeats 6400000 in
theorem sEqual_any (a b : Option Addr) (L M : List Tu) (n m c d : Nat) (w : World) (hn : L.length = n) (hm : M.length = m) (hn2 : n ≤ 1000) (h1 : TusAt w a L) (h2 : TusAt w b M) :
    Calls Try.prog 45 #[.slice a n c, .slice b m d] w fun e w' => e = .returned (.bool (decide (L = M))) ∧ G w w' := by
  have H1 := Lib.hid h1
  have H2 := Lib.hid h2
  have HN := Lib.hid (And.intro hn (And.intro hm hn2))
  obtain ⟨R, hR⟩ : ∃ z : Bool, Hid (decide (L = M) = z) := ⟨_, rfl⟩
  rw [hR.out]
  clear h1 h2 hn hm hn2
  by_cases e0 : n = m
  rotate_left
  · have HR := Lib.hid (show R = false by rw [← hR.out]; exact decide_eq_false (fun h => e0 (by have := HN.out; rw [h] at this; omega)))
    have e1 : ¬ ((n : Int) = (m : Int)) := by omega
    have e2 : ((n : Int) == (m : Int)) = false := beq_false_of_ne e1
    go_enter Try.func45, Try.ntmps45
    go_wp2_with fail
    go_ret
    exact ⟨by rw [HR.out]; first | done | rfl, by (repeat' (first | (with_reducible exact G.refl _) | (with_reducible assumption) | (with_reducible refine G.drewN ?_ _) | (with_reducible refine G.drew ?_) | (with_reducible refine G.alloc ?_ _) | (with_reducible refine G.setCell ?_ (by first | (with_reducible exact Nat.le_refl _) | (simp; done) | (simp; omega) | omega) _) | (with_reducible refine G.trans ?_ (by assumption))))⟩
  subst e0
  go_enter Try.func45, Try.ntmps45
  go_wp2_with fail
  go_loopg [13] n (fun q x wr => ∃ i : Nat, x = .int .i64 i ∧ q = n - i ∧ i ≤ n ∧ Hid (L.take i = M.take i) ∧ G w wr)
  case atStart => exact ⟨0, rfl, by omega, by omega, Lib.hid (by simp), by (repeat' (first | (with_reducible exact G.refl _) | (with_reducible assumption) | (with_reducible refine G.drewN ?_ _) | (with_reducible refine G.drew ?_) | (with_reducible refine G.alloc ?_ _) | (with_reducible refine G.setCell ?_ (by first | (with_reducible exact Nat.le_refl _) | (simp; done) | (simp; omega) | omega) _) | (with_reducible refine G.trans ?_ (by assumption))))⟩
  case round =>
    obtain ⟨i, rfl, hq, hi, hE, gr⟩ := hrel
    have HQ := Lib.hid hq
    clear hq
    by_cases hin : i < n
    · obtain ⟨⟨f, cc, aa, nn⟩, hx⟩ : ∃ z, L[i]? = some z := ⟨L[i]'(by have := HN.out; omega), List.getElem?_eq_getElem (by have := HN.out; omega)⟩
      obtain ⟨⟨f', c', a', n'⟩, hy⟩ : ∃ z, M[i]? = some z := ⟨M[i]'(by have := HN.out; omega), List.getElem?_eq_getElem (by have := HN.out; omega)⟩
      rcases H1.out with hz | ⟨b0, o0, rfl, f0⟩
      · rw [hz] at hx; simp at hx
      rcases H2.out with hz | ⟨b2, o2, rfl, f2⟩
      · rw [hz] at hy; simp at hy
      obtain ⟨x0, x1, x2, x3⟩ := (f0 i _ hx).later gr
      obtain ⟨y0, y1, y2, y3⟩ := (f2 i _ hy).later gr
      dsimp only at x0 x1 x2 x3 y0 y1 y2 y3
      have b1 : (0 : Int) ≤ (i : Int) := by omega
      have b2 : (i : Int) < (n : Int) := by omega
      have q1 := IntWalk.i64_in ((i : Int) + 1) (by have := HN.out; omega)
      have HXY := Lib.hid (And.intro hx hy)
      clear f0 f2 hx hy
      by_cases et : (⟨f, cc, aa, nn⟩ : Tu) = ⟨f', c', a', n'⟩
      · simp only [Tu.mk.injEq] at et
        obtain ⟨rfl, rfl, rfl, rfl⟩ := et
        have HE2 := Lib.hid (show L.take (i + 1) = M.take (i + 1) by rw [List.take_add_one, List.take_add_one, hE.out, HXY.out.1, HXY.out.2])
        go_wp2_with fail
        go_big_region
        all_goals
          go_wp2_with fail
          go_roundg (n - (i + 1))
          case measure => have := HQ.out; omega
          case rel => exact ⟨i + 1, by go_num, rfl, by omega, HE2, by (repeat' (first | (with_reducible exact G.refl _) | (with_reducible assumption) | (with_reducible refine G.drewN ?_ _) | (with_reducible refine G.drew ?_) | (with_reducible refine G.alloc ?_ _) | (with_reducible refine G.setCell ?_ (by first | (with_reducible exact Nat.le_refl _) | (simp; done) | (simp; omega) | omega) _) | (with_reducible refine G.trans ?_ (by assumption))))⟩
      · have HR := Lib.hid (show R = false by rw [← hR.out]; exact decide_eq_false (fun h => et (by have h1 := HXY.out.1; rw [h, HXY.out.2] at h1; exact (Option.some.inj h1).symm)))
        have hne := fun w => neq_sEqual f cc aa nn f' c' a' n' w et
        clear et
        go_wp2_with fail
        go_big_region
        all_goals
          go_wp2_with fail
          go_ret
          exact ⟨by rw [HR.out]; first | done | rfl, by (repeat' (first | (with_reducible exact G.refl _) | (with_reducible assumption) | (with_reducible refine G.drewN ?_ _) | (with_reducible refine G.drew ?_) | (with_reducible refine G.alloc ?_ _) | (with_reducible refine G.setCell ?_ (by first | (with_reducible exact Nat.le_refl _) | (simp; done) | (simp; omega) | omega) _) | (with_reducible refine G.trans ?_ (by assumption))))⟩
    · have hii : i = n := by omega
      have HR := Lib.hid (show R = true by
        have h := hE.out
        rw [List.take_of_length_le (by have := HN.out; omega), List.take_of_length_le (by have := HN.out; omega)] at h
        rw [← hR.out]; exact decide_eq_true h)
      subst hii
      go_wp2_with fail
      go_ret
      exact ⟨by rw [HR.out]; first | done | rfl, by (repeat' (first | (with_reducible exact G.refl _) | (with_reducible assumption) | (with_reducible refine G.drewN ?_ _) | (with_reducible refine G.drew ?_) | (with_reducible refine G.alloc ?_ _) | (with_reducible refine G.setCell ?_ (by first | (with_reducible exact Nat.le_refl _) | (simp; done) | (simp; omega) | omega) _) | (with_reducible refine G.trans ?_ (by assumption))))⟩

set_option maxHeartbeats 3200000 in
theorem tEqual_any (a b : Option Addr) (L M : List Tu) (n m c d : Nat) (w : World) (hn : L.length = n) (hm : M.length = m) (hn2 : n ≤ 1000) (h1 : TusAt w a L) (h2 : TusAt w b M) :
    Calls Try.prog 20 #[.slice a n c, .slice b m d] w fun e w' => e = .returned (.bool (decide (L = M))) ∧ G w w' := by
  have HH := Lib.hid (And.intro hn (And.intro hm (And.intro hn2 (And.intro h1 h2))))
  obtain ⟨R, hR⟩ : ∃ z : Bool, Hid (decide (L = M) = z) := ⟨_, rfl⟩
  rw [hR.out]
  clear hn hm hn2 h1 h2
  go_enter Try.func20, Try.ntmps20
  go_wp2_with fail
  refine (sEqual_any a b L M n m c d _ HH.out.1 HH.out.2.1 HH.out.2.2.1 (HH.out.2.2.2.1.later (by (repeat' (first | (with_reducible exact G.refl _) | (with_reducible assumption) | (with_reducible refine G.drewN ?_ _) | (with_reducible refine G.drew ?_) | (with_reducible refine G.alloc ?_ _) | (with_reducible refine G.setCell ?_ (by first | (with_reducible exact Nat.le_refl _) | (simp; done) | (simp; omega) | omega) _) | (with_reducible refine G.trans ?_ (by assumption)))))) (HH.out.2.2.2.2.later (by (repeat' (first | (with_reducible exact G.refl _) | (with_reducible assumption) | (with_reducible refine G.drewN ?_ _) | (with_reducible refine G.drew ?_) | (with_reducible refine G.alloc ?_ _) | (with_reducible refine G.setCell ?_ (by first | (with_reducible exact Nat.le_refl _) | (simp; done) | (simp; omega) | omega) _) | (with_reducible refine G.trans ?_ (by assumption))))))).mono ?_
  rintro e w1 ⟨rfl, hG⟩
  rw [hR.out]
  go_wp2_with fail
  go_ret
  exact ⟨rfl, by (repeat' (first | (with_reducible exact G.refl _) | (with_reducible assumption) | (with_reducible refine G.drewN ?_ _) | (with_reducible refine G.drew ?_) | (with_reducible refine G.alloc ?_ _) | (with_reducible refine G.setCell ?_ (by first | (with_reducible exact Nat.le_refl _) | (simp; done) | (simp; omega) | omega) _) | (with_reducible refine G.trans ?_ (by assumption))))⟩
set_option maxHeartbeats 3200000 in
theorem sEqual_len (a b : Option Addr) (n m c d : Nat) (w : World) (h : ¬ n = m) :
    Calls Try.prog 45 #[.slice a n c, .slice b m d] w fun e w' => e = .returned (.bool false) ∧ G w w' := by
  have e1 : ¬ ((n : Int) = (m : Int)) := by omega
  have e2 : ((n : Int) == (m : Int)) = false := beq_false_of_ne e1
  clear h
  go_enter Try.func45, Try.ntmps45
  go_wp2_with fail
  go_ret
  exact ⟨rfl, by (repeat' (first | (with_reducible exact G.refl _) | (with_reducible assumption) | (with_reducible refine G.drewN ?_ _) | (with_reducible refine G.drew ?_) | (with_reducible refine G.alloc ?_ _) | (with_reducible refine G.setCell ?_ (by first | (with_reducible exact Nat.le_refl _) | (simp; done) | (simp; omega) | omega) _) | (with_reducible refine G.trans ?_ (by assumption))))⟩
set_option maxHeartbeats 3200000 in
theorem tEqual_len (a b : Option Addr) (n m c d : Nat) (w : World) (h : ¬ n = m) :
    Calls Try.prog 20 #[.slice a n c, .slice b m d] w fun e w' => e = .returned (.bool false) ∧ G w w' := by
  go_enter Try.func20, Try.ntmps20
  go_wp2_with fail
  refine (sEqual_len a b n m c d _ h).mono ?_
  rintro e w1 ⟨rfl, hG⟩
  go_wp2_with fail
  go_ret
  exact ⟨rfl, by (repeat' (first | (with_reducible exact G.refl _) | (with_reducible assumption) | (with_reducible refine G.drewN ?_ _) | (with_reducible refine G.drew ?_) | (with_reducible refine G.alloc ?_ _) | (with_reducible refine G.setCell ?_ (by first | (with_reducible exact Nat.le_refl _) | (simp; done) | (simp; omega) | omega) _) | (with_reducible refine G.trans ?_ (by assumption))))⟩
end Go.Proofs.Ytabaiklagobimaa
