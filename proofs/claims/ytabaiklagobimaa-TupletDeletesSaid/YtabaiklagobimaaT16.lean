import Derived.Test.YtabaiklagobimaaT15
/-! Tuplets: the library's stable sort, at up to 20 of them; Canonical. -/
namespace Go.Proofs.Ytabaiklagobimaa
open Go.RowKit
attribute [local go_sem] World.cell?_alloc_some

set_option maxHeartbeats 1600000 in
theorem sIns_none (p : Option Addr) (A n cap : Nat) (hA : A ≤ 20) (w : World) :
    Calls Try.prog 58 #[.slice p n cap, .int .i64 A, .int .i64 A, .func (.func 40) #[] #[]] w fun e w' => (∃ v, e = .returned v) ∧ G w w' := by
  have q1 := IntWalk.i64_in ((A : Int) + 1) (by omega)
  have b1 : ¬ ((A : Int) + 1 < (A : Int)) := by omega
  clear hA
  go_enter Try.func58, Try.ntmps58
  go_wp2_with fail
  go_loopg [8] 0 (fun q x wr => q = 0 ∧ x = .int .i64 ((A : Int) + 1) ∧ G w wr)
  case atStart => exact ⟨rfl, rfl, by (repeat' (first | (with_reducible exact G.refl _) | (with_reducible assumption) | (with_reducible refine G.drewN ?_ _) | (with_reducible refine G.drew ?_) | (with_reducible refine G.alloc ?_ _) | (with_reducible refine G.setCell ?_ (by first | (with_reducible exact Nat.le_refl _) | (simp; done) | (simp; omega) | omega) _) | (with_reducible refine G.trans ?_ (by assumption))))⟩
  case round =>
    obtain ⟨rfl, rfl, gr⟩ := hrel
    go_wp2_with fail
    refine bodyPost_end (results_none rfl _ _ _) rfl ?_
    exact ⟨⟨_, rfl⟩, by (repeat' (first | (with_reducible exact G.refl _) | (with_reducible assumption) | (with_reducible refine G.drewN ?_ _) | (with_reducible refine G.drew ?_) | (with_reducible refine G.alloc ?_ _) | (with_reducible refine G.setCell ?_ (by first | (with_reducible exact Nat.le_refl _) | (simp; done) | (simp; omega) | omega) _) | (with_reducible refine G.trans ?_ (by assumption))))⟩

set_option maxRecDepth 100000 in
set_option maxHeartbeats 6400000 in
theorem sStable_any (l : List Tu) (g cap n : Nat) (W0 w : World) (hn : l.length = n) (hl : n ≤ 20) (h0 : 0 < n) (hg : W0.heap.size ≤ g) (hW : G W0 w) (hT : TW w g l) :
    Calls Try.prog 56 #[.slice (some ⟨g, 0, none⟩) n cap, .int .i64 n, .func (.func 40) #[] #[]] w fun e w' => (∃ v, e = .returned v) ∧ TW w' g (sortT l) ∧ G W0 w' := by
  have HT := Lib.hid hT
  have HN := Lib.hid (And.intro hn (And.intro hl (And.intro h0 hg)))
  have HW := Lib.hid hW
  clear hT hn h0 hg hW
  by_cases c : n = 20
  · subst c
    clear hl
    go_enter Try.func56, Try.ntmps56
    go_wp2_with fail
    go_loopg [7, 8] 1 (fun q x y wr => ((q = 1 ∧ x = .int .i64 0 ∧ y = .int .i64 20 ∧ Hid (TW wr g l)) ∨ (q = 0 ∧ x = .int .i64 20 ∧ y = .int .i64 40 ∧ Hid (TW wr g (sortT l)))) ∧ G W0 wr)
    case atStart => exact ⟨.inl ⟨rfl, rfl, rfl, Lib.hid (HT.out.later (by (repeat' (first | (with_reducible exact G.refl _) | (with_reducible assumption) | (with_reducible refine G.drewN ?_ _) | (with_reducible refine G.drew ?_) | (with_reducible refine G.alloc ?_ _) | (with_reducible refine G.setCell ?_ (by first | (with_reducible exact Nat.le_refl _) | (simp; done) | (simp; omega) | omega) _) | (with_reducible refine G.trans ?_ (by assumption))))))⟩, HW.out.trans (by (repeat' (first | (with_reducible exact G.refl _) | (with_reducible assumption) | (with_reducible refine G.drewN ?_ _) | (with_reducible refine G.drew ?_) | (with_reducible refine G.alloc ?_ _) | (with_reducible refine G.setCell ?_ (by first | (with_reducible exact Nat.le_refl _) | (simp; done) | (simp; omega) | omega) _) | (with_reducible refine G.trans ?_ (by assumption)))))⟩
    case round =>
      obtain ⟨⟨rfl, rfl, rfl, hTW⟩ | ⟨rfl, rfl, rfl, hTW⟩, gr⟩ := hrel
      · go_wp2_with fail
        refine (sIns_any l g cap 20 W0 _ HN.out.1 HN.out.2.1 HN.out.2.2.1 HN.out.2.2.2 (gr.trans (by (repeat' (first | (with_reducible exact G.refl _) | (with_reducible assumption) | (with_reducible refine G.drewN ?_ _) | (with_reducible refine G.drew ?_) | (with_reducible refine G.alloc ?_ _) | (with_reducible refine G.setCell ?_ (by first | (with_reducible exact Nat.le_refl _) | (simp; done) | (simp; omega) | omega) _) | (with_reducible refine G.trans ?_ (by assumption)))))) (hTW.out.later (by (repeat' (first | (with_reducible exact G.refl _) | (with_reducible assumption) | (with_reducible refine G.drewN ?_ _) | (with_reducible refine G.drew ?_) | (with_reducible refine G.alloc ?_ _) | (with_reducible refine G.setCell ?_ (by first | (with_reducible exact Nat.le_refl _) | (simp; done) | (simp; omega) | omega) _) | (with_reducible refine G.trans ?_ (by assumption))))))).mono ?_
        rintro e w2 ⟨⟨v, rfl⟩, hT2, hG2⟩
        have HT2 := Lib.hid hT2
        clear hT2
        go_wp2_with fail
        go_roundg 0
        case measure => omega
        case rel => exact ⟨.inr ⟨rfl, by first | rfl | go_num, by first | rfl | go_num, Lib.hid (HT2.out.later (by (repeat' (first | (with_reducible exact G.refl _) | (with_reducible assumption) | (with_reducible refine G.drewN ?_ _) | (with_reducible refine G.drew ?_) | (with_reducible refine G.alloc ?_ _) | (with_reducible refine G.setCell ?_ (by first | (with_reducible exact Nat.le_refl _) | (simp; done) | (simp; omega) | omega) _) | (with_reducible refine G.trans ?_ (by assumption))))))⟩, hG2.trans (by (repeat' (first | (with_reducible exact G.refl _) | (with_reducible assumption) | (with_reducible refine G.drewN ?_ _) | (with_reducible refine G.drew ?_) | (with_reducible refine G.alloc ?_ _) | (with_reducible refine G.setCell ?_ (by first | (with_reducible exact Nat.le_refl _) | (simp; done) | (simp; omega) | omega) _) | (with_reducible refine G.trans ?_ (by assumption)))))⟩
      · go_wp2_with fail
        refine (sIns_none _ 20 20 _ (by decide) _).mono ?_
        rintro e w2 ⟨⟨v, rfl⟩, hG2⟩
        have g2 : G wr w2 := G.trans (by (repeat' (first | (with_reducible exact G.refl _) | (with_reducible refine G.drewN ?_ _) | (with_reducible refine G.drew ?_) | (with_reducible refine G.alloc ?_ _)))) hG2
        go_wp2_with fail
        go_loopg [6] 0 (fun q x wr2 => q = 0 ∧ x = .int .i64 20 ∧ G wr wr2)
        case atStart => exact ⟨rfl, rfl, g2.trans (by (repeat' (first | (with_reducible exact G.refl _) | (with_reducible assumption) | (with_reducible refine G.drewN ?_ _) | (with_reducible refine G.drew ?_) | (with_reducible refine G.alloc ?_ _) | (with_reducible refine G.setCell ?_ (by first | (with_reducible exact Nat.le_refl _) | (simp; done) | (simp; omega) | omega) _) | (with_reducible refine G.trans ?_ (by assumption)))))⟩
        case round =>
          obtain ⟨rfl, rfl, gr2⟩ := hrel
          go_wp2_with fail
          refine bodyPost_end (results_none rfl _ _ _) rfl ?_
          exact ⟨⟨_, rfl⟩, hTW.out.later (gr2.trans (by (repeat' (first | (with_reducible exact G.refl _) | (with_reducible assumption) | (with_reducible refine G.drewN ?_ _) | (with_reducible refine G.drew ?_) | (with_reducible refine G.alloc ?_ _) | (with_reducible refine G.setCell ?_ (by first | (with_reducible exact Nat.le_refl _) | (simp; done) | (simp; omega) | omega) _) | (with_reducible refine G.trans ?_ (by assumption)))))), gr.trans (gr2.trans (by (repeat' (first | (with_reducible exact G.refl _) | (with_reducible assumption) | (with_reducible refine G.drewN ?_ _) | (with_reducible refine G.drew ?_) | (with_reducible refine G.alloc ?_ _) | (with_reducible refine G.setCell ?_ (by first | (with_reducible exact Nat.le_refl _) | (simp; done) | (simp; omega) | omega) _) | (with_reducible refine G.trans ?_ (by assumption))))))⟩
  · have c1 : ¬ ((20 : Int) ≤ (n : Int)) := by omega
    have c2 : ¬ ((20 : Int) < (n : Int)) := by omega
    have c3 : ¬ (20 ≤ n) := by omega
    have c4 : ¬ (20 < n) := by omega
    clear hl c
    go_enter Try.func56, Try.ntmps56
    go_wp2_with fail
    go_loopg [7, 8] 0 (fun q x y wr => q = 0 ∧ x = .int .i64 0 ∧ y = .int .i64 20 ∧ Hid (TW wr g l) ∧ G W0 wr)
    case atStart => exact ⟨rfl, rfl, rfl, Lib.hid (HT.out.later (by (repeat' (first | (with_reducible exact G.refl _) | (with_reducible assumption) | (with_reducible refine G.drewN ?_ _) | (with_reducible refine G.drew ?_) | (with_reducible refine G.alloc ?_ _) | (with_reducible refine G.setCell ?_ (by first | (with_reducible exact Nat.le_refl _) | (simp; done) | (simp; omega) | omega) _) | (with_reducible refine G.trans ?_ (by assumption)))))), HW.out.trans (by (repeat' (first | (with_reducible exact G.refl _) | (with_reducible assumption) | (with_reducible refine G.drewN ?_ _) | (with_reducible refine G.drew ?_) | (with_reducible refine G.alloc ?_ _) | (with_reducible refine G.setCell ?_ (by first | (with_reducible exact Nat.le_refl _) | (simp; done) | (simp; omega) | omega) _) | (with_reducible refine G.trans ?_ (by assumption)))))⟩
    case round =>
      obtain ⟨rfl, rfl, rfl, hTW, gr⟩ := hrel
      go_wp2_with fail
      refine (sIns_any l g cap n W0 _ HN.out.1 HN.out.2.1 HN.out.2.2.1 HN.out.2.2.2 (gr.trans (by (repeat' (first | (with_reducible exact G.refl _) | (with_reducible assumption) | (with_reducible refine G.drewN ?_ _) | (with_reducible refine G.drew ?_) | (with_reducible refine G.alloc ?_ _) | (with_reducible refine G.setCell ?_ (by first | (with_reducible exact Nat.le_refl _) | (simp; done) | (simp; omega) | omega) _) | (with_reducible refine G.trans ?_ (by assumption)))))) (hTW.out.later (by (repeat' (first | (with_reducible exact G.refl _) | (with_reducible assumption) | (with_reducible refine G.drewN ?_ _) | (with_reducible refine G.drew ?_) | (with_reducible refine G.alloc ?_ _) | (with_reducible refine G.setCell ?_ (by first | (with_reducible exact Nat.le_refl _) | (simp; done) | (simp; omega) | omega) _) | (with_reducible refine G.trans ?_ (by assumption))))))).mono ?_
      rintro e w2 ⟨⟨v, rfl⟩, hT2, hG2⟩
      have HT2 := Lib.hid hT2
      clear hT2
      go_wp2_with fail
      go_loopg [6] 0 (fun q x wr2 => q = 0 ∧ x = .int .i64 20 ∧ G w2 wr2)
      case atStart => exact ⟨rfl, rfl, by (repeat' (first | (with_reducible exact G.refl _) | (with_reducible assumption) | (with_reducible refine G.drewN ?_ _) | (with_reducible refine G.drew ?_) | (with_reducible refine G.alloc ?_ _) | (with_reducible refine G.setCell ?_ (by first | (with_reducible exact Nat.le_refl _) | (simp; done) | (simp; omega) | omega) _) | (with_reducible refine G.trans ?_ (by assumption))))⟩
      case round =>
        obtain ⟨rfl, rfl, gr2⟩ := hrel
        go_wp2_with fail
        refine bodyPost_end (results_none rfl _ _ _) rfl ?_
        exact ⟨⟨_, rfl⟩, HT2.out.later (gr2.trans (by (repeat' (first | (with_reducible exact G.refl _) | (with_reducible assumption) | (with_reducible refine G.drewN ?_ _) | (with_reducible refine G.drew ?_) | (with_reducible refine G.alloc ?_ _) | (with_reducible refine G.setCell ?_ (by first | (with_reducible exact Nat.le_refl _) | (simp; done) | (simp; omega) | omega) _) | (with_reducible refine G.trans ?_ (by assumption)))))), hG2.trans (gr2.trans (by (repeat' (first | (with_reducible exact G.refl _) | (with_reducible assumption) | (with_reducible refine G.drewN ?_ _) | (with_reducible refine G.drew ?_) | (with_reducible refine G.alloc ?_ _) | (with_reducible refine G.setCell ?_ (by first | (with_reducible exact Nat.le_refl _) | (simp; done) | (simp; omega) | omega) _) | (with_reducible refine G.trans ?_ (by assumption))))))⟩
set_option maxRecDepth 100000 in
set_option maxHeartbeats 3200000 in
theorem sStable_nil (p : Option Addr) (cap : Nat) (w : World) :
    Calls Try.prog 56 #[.slice p 0 cap, .int .i64 0, .func (.func 40) #[] #[]] w fun e w' => (∃ v, e = .returned v) ∧ G w w' := by
  go_enter Try.func56, Try.ntmps56
  go_wp2_with fail
  go_loopg [7, 8] 0 (fun q x y wr => q = 0 ∧ x = .int .i64 0 ∧ y = .int .i64 20 ∧ G w wr)
  case atStart => exact ⟨rfl, rfl, rfl, by (repeat' (first | (with_reducible exact G.refl _) | (with_reducible assumption) | (with_reducible refine G.drewN ?_ _) | (with_reducible refine G.drew ?_) | (with_reducible refine G.alloc ?_ _) | (with_reducible refine G.setCell ?_ (by first | (with_reducible exact Nat.le_refl _) | (simp; done) | (simp; omega) | omega) _) | (with_reducible refine G.trans ?_ (by assumption))))⟩
  case round =>
    obtain ⟨rfl, rfl, rfl, gr⟩ := hrel
    go_wp2_with fail
    refine (sIns_none p 0 0 cap (by decide) _).mono ?_
    rintro e w2 ⟨⟨v, rfl⟩, hG2⟩
    have g2 : G wr w2 := G.trans (by (repeat' (first | (with_reducible exact G.refl _) | (with_reducible refine G.drewN ?_ _) | (with_reducible refine G.drew ?_) | (with_reducible refine G.alloc ?_ _)))) hG2
    go_wp2_with fail
    go_loopg [6] 0 (fun q x wr2 => q = 0 ∧ x = .int .i64 20 ∧ G wr wr2)
    case atStart => exact ⟨rfl, rfl, g2.trans (by (repeat' (first | (with_reducible exact G.refl _) | (with_reducible assumption) | (with_reducible refine G.drewN ?_ _) | (with_reducible refine G.drew ?_) | (with_reducible refine G.alloc ?_ _) | (with_reducible refine G.setCell ?_ (by first | (with_reducible exact Nat.le_refl _) | (simp; done) | (simp; omega) | omega) _) | (with_reducible refine G.trans ?_ (by assumption)))))⟩
    case round =>
      obtain ⟨rfl, rfl, gr2⟩ := hrel
      go_wp2_with fail
      refine bodyPost_end (results_none rfl _ _ _) rfl ?_
      exact ⟨⟨_, rfl⟩, gr.trans (gr2.trans (by (repeat' (first | (with_reducible exact G.refl _) | (with_reducible assumption) | (with_reducible refine G.drewN ?_ _) | (with_reducible refine G.drew ?_) | (with_reducible refine G.alloc ?_ _) | (with_reducible refine G.setCell ?_ (by first | (with_reducible exact Nat.le_refl _) | (simp; done) | (simp; omega) | omega) _) | (with_reducible refine G.trans ?_ (by assumption))))))⟩

set_option maxHeartbeats 3200000 in
theorem sSort_any (l : List Tu) (g cap n : Nat) (W0 w : World) (hn : l.length = n) (hl : n ≤ 20) (h0 : 0 < n) (hg : W0.heap.size ≤ g) (hW : G W0 w) (hT : TW w g l) :
    Calls Try.prog 44 #[.slice (some ⟨g, 0, none⟩) n cap, .func (.func 40) #[] #[]] w fun e w' => (∃ v, e = .returned v) ∧ TW w' g (sortT l) ∧ G W0 w' := by
  have HH := Lib.hid (And.intro hn (And.intro hl (And.intro h0 (And.intro hg (And.intro hW hT)))))
  clear hn hl h0 hg hW hT
  go_enter Try.func44, Try.ntmps44
  go_wp2_with fail
  refine (sStable_any l g cap n W0 _ HH.out.1 HH.out.2.1 HH.out.2.2.1 HH.out.2.2.2.1 (HH.out.2.2.2.2.1.trans (by (repeat' (first | (with_reducible exact G.refl _) | (with_reducible assumption) | (with_reducible refine G.drewN ?_ _) | (with_reducible refine G.drew ?_) | (with_reducible refine G.alloc ?_ _) | (with_reducible refine G.setCell ?_ (by first | (with_reducible exact Nat.le_refl _) | (simp; done) | (simp; omega) | omega) _) | (with_reducible refine G.trans ?_ (by assumption)))))) (HH.out.2.2.2.2.2.later (by (repeat' (first | (with_reducible exact G.refl _) | (with_reducible assumption) | (with_reducible refine G.drewN ?_ _) | (with_reducible refine G.drew ?_) | (with_reducible refine G.alloc ?_ _) | (with_reducible refine G.setCell ?_ (by first | (with_reducible exact Nat.le_refl _) | (simp; done) | (simp; omega) | omega) _) | (with_reducible refine G.trans ?_ (by assumption))))))).mono ?_
  rintro e w2 ⟨⟨v, rfl⟩, hT2, hG2⟩
  have HT2 := Lib.hid hT2
  clear hT2
  go_wp2_with fail
  refine bodyPost_end (results_none rfl _ _ _) rfl ?_
  exact ⟨⟨_, rfl⟩, HT2.out.later (by (repeat' (first | (with_reducible exact G.refl _) | (with_reducible assumption) | (with_reducible refine G.drewN ?_ _) | (with_reducible refine G.drew ?_) | (with_reducible refine G.alloc ?_ _) | (with_reducible refine G.setCell ?_ (by first | (with_reducible exact Nat.le_refl _) | (simp; done) | (simp; omega) | omega) _) | (with_reducible refine G.trans ?_ (by assumption))))), hG2.trans (by (repeat' (first | (with_reducible exact G.refl _) | (with_reducible assumption) | (with_reducible refine G.drewN ?_ _) | (with_reducible refine G.drew ?_) | (with_reducible refine G.alloc ?_ _) | (with_reducible refine G.setCell ?_ (by first | (with_reducible exact Nat.le_refl _) | (simp; done) | (simp; omega) | omega) _) | (with_reducible refine G.trans ?_ (by assumption)))))⟩
set_option maxHeartbeats 3200000 in
theorem sSort_nil (p : Option Addr) (cap : Nat) (w : World) :
    Calls Try.prog 44 #[.slice p 0 cap, .func (.func 40) #[] #[]] w fun e w' => (∃ v, e = .returned v) ∧ G w w' := by
  go_enter Try.func44, Try.ntmps44
  go_wp2_with fail
  refine (sStable_nil p cap _).mono ?_
  rintro e w2 ⟨⟨v, rfl⟩, hG2⟩
  go_wp2_with fail
  refine bodyPost_end (results_none rfl _ _ _) rfl ?_
  exact ⟨⟨_, rfl⟩, by (repeat' (first | (with_reducible exact G.refl _) | (with_reducible assumption) | (with_reducible refine G.drewN ?_ _) | (with_reducible refine G.drew ?_) | (with_reducible refine G.alloc ?_ _) | (with_reducible refine G.setCell ?_ (by first | (with_reducible exact Nat.le_refl _) | (simp; done) | (simp; omega) | omega) _) | (with_reducible refine G.trans ?_ (by assumption))))⟩

set_option maxHeartbeats 3200000 in
theorem Canonical_any (a : Option Addr) (l : List Tu) (n c : Nat) (w : World) (hn : l.length = n) (hl : n ≤ 20) (h1 : TusAt w a l) (hz : a = none → c = 0) :
    Calls Try.prog 17 #[.slice a n c] w fun e w' => ∃ p cap, e = .returned (.slice p n cap) ∧ TusAt w' p (sortT l) ∧ G w w' := by
  have H1 := Lib.hid h1
  have HZ := Lib.hid hz
  have HN := Lib.hid (And.intro hn hl)
  clear h1 hz hn hl
  go_enter Try.func17, Try.ntmps17
  go_wp2_with fail
  refine (Clone_any a l n c _ HN.out.1 HN.out.2 (H1.out.later (by (repeat' (first | (with_reducible exact G.refl _) | (with_reducible assumption) | (with_reducible refine G.drewN ?_ _) | (with_reducible refine G.drew ?_) | (with_reducible refine G.alloc ?_ _) | (with_reducible refine G.setCell ?_ (by first | (with_reducible exact Nat.le_refl _) | (simp; done) | (simp; omega) | omega) _) | (with_reducible refine G.trans ?_ (by assumption)))))) HZ.out).mono ?_
  rintro e w1 ⟨v, rfl, hR, hG1⟩
  have g1 : G w w1 := G.trans (by (repeat' (first | (with_reducible exact G.refl _) | (with_reducible refine G.drewN ?_ _) | (with_reducible refine G.drew ?_) | (with_reducible refine G.alloc ?_ _)))) hG1
  obtain ⟨p, cap, g, rfl, hsh⟩ := hR.tw
  rw [HN.out.1]
  clear hR
  rcases hsh with rfl | ⟨rfl, hg, hT⟩
  · obtain rfl : n = 0 := HN.out.1.symm
    go_wp2_with fail
    refine (sSort_nil p cap _).mono ?_
    rintro e w2 ⟨⟨v, rfl⟩, hG2⟩
    go_wp2_with fail
    go_ret
    exact ⟨p, cap, rfl, .inl rfl, g1.trans (by (repeat' (first | (with_reducible exact G.refl _) | (with_reducible assumption) | (with_reducible refine G.drewN ?_ _) | (with_reducible refine G.drew ?_) | (with_reducible refine G.alloc ?_ _) | (with_reducible refine G.setCell ?_ (by first | (with_reducible exact Nat.le_refl _) | (simp; done) | (simp; omega) | omega) _) | (with_reducible refine G.trans ?_ (by assumption)))))⟩
  · have HT := Lib.hid hT
    clear hT
    by_cases h0 : n = 0
    · subst h0
      have hl0 : l = [] := List.length_eq_zero_iff.1 HN.out.1
      go_wp2_with fail
      refine (sSort_nil _ cap _).mono ?_
      rintro e w2 ⟨⟨v, rfl⟩, hG2⟩
      go_wp2_with fail
      go_ret
      exact ⟨_, cap, rfl, .inl (by rw [hl0]; rfl), g1.trans (by (repeat' (first | (with_reducible exact G.refl _) | (with_reducible assumption) | (with_reducible refine G.drewN ?_ _) | (with_reducible refine G.drew ?_) | (with_reducible refine G.alloc ?_ _) | (with_reducible refine G.setCell ?_ (by first | (with_reducible exact Nat.le_refl _) | (simp; done) | (simp; omega) | omega) _) | (with_reducible refine G.trans ?_ (by assumption)))))⟩
    · have HG := Lib.hid hg
      have H0 := Lib.hid (show 0 < n by omega)
      clear h0 hg
      go_wp2_with fail
      refine (sSort_any l g cap n w _ HN.out.1 HN.out.2 H0.out HG.out (g1.trans (by (repeat' (first | (with_reducible exact G.refl _) | (with_reducible assumption) | (with_reducible refine G.drewN ?_ _) | (with_reducible refine G.drew ?_) | (with_reducible refine G.alloc ?_ _) | (with_reducible refine G.setCell ?_ (by first | (with_reducible exact Nat.le_refl _) | (simp; done) | (simp; omega) | omega) _) | (with_reducible refine G.trans ?_ (by assumption)))))) (HT.out.later (by (repeat' (first | (with_reducible exact G.refl _) | (with_reducible assumption) | (with_reducible refine G.drewN ?_ _) | (with_reducible refine G.drew ?_) | (with_reducible refine G.alloc ?_ _) | (with_reducible refine G.setCell ?_ (by first | (with_reducible exact Nat.le_refl _) | (simp; done) | (simp; omega) | omega) _) | (with_reducible refine G.trans ?_ (by assumption))))))).mono ?_
      rintro e w2 ⟨⟨v, rfl⟩, hT2, hG2⟩
      have HT2 := Lib.hid hT2
      clear hT2
      go_wp2_with fail
      go_ret
      exact ⟨_, cap, rfl, TusAt.later HT2.out.tus (by (repeat' (first | (with_reducible exact G.refl _) | (with_reducible assumption) | (with_reducible refine G.drewN ?_ _) | (with_reducible refine G.drew ?_) | (with_reducible refine G.alloc ?_ _) | (with_reducible refine G.setCell ?_ (by first | (with_reducible exact Nat.le_refl _) | (simp; done) | (simp; omega) | omega) _) | (with_reducible refine G.trans ?_ (by assumption))))), hG2.trans (by (repeat' (first | (with_reducible exact G.refl _) | (with_reducible assumption) | (with_reducible refine G.drewN ?_ _) | (with_reducible refine G.drew ?_) | (with_reducible refine G.alloc ?_ _) | (with_reducible refine G.setCell ?_ (by first | (with_reducible exact Nat.le_refl _) | (simp; done) | (simp; omega) | omega) _) | (with_reducible refine G.trans ?_ (by assumption)))))⟩
end Go.Proofs.Ytabaiklagobimaa
