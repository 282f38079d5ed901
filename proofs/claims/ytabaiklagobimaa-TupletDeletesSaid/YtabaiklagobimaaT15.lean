import Derived.Test.YtabaiklagobimaaT13
/-! Tuplets: the library's insertion sort, at up to 20 of them. -/
namespace Go.Proofs.Ytabaiklagobimaa
open Go.RowKit
attribute [local go_sem] World.cell?_alloc_some

theorem swap_set (A B : List Tu) (x y : Tu) : ((A ++ y :: x :: B).set (A.length + 1) y).set A.length x = A ++ x :: y :: B := by
  rw [List.set_append_right _ _ (by omega), Nat.add_sub_cancel_left, List.set_append_right _ _ (Nat.le_refl _), Nat.sub_self]
  rfl
theorem rs_len (l : List Tu) : (rs l).length = l.length := by
  have := (fold_perm l []).length_eq
  simpa [rs] using this
def dD (p q R : List Tu) (x : Tu) : List Tu := q.reverse ++ x :: (p.reverse ++ R)
theorem dD_at (p q R : List Tu) (x : Tu) : (dD p q R x)[q.length]? = some x := by
  unfold dD
  rw [List.getElem?_append_right (by rw [List.length_reverse]; exact Nat.le_refl _), List.length_reverse, Nat.sub_self]
  rfl
theorem dD_bef (p q R : List Tu) (x y : Tu) : (dD p (y :: q) R x)[q.length]? = some y := by
  unfold dD
  rw [List.reverse_cons, List.append_assoc, List.getElem?_append_right (by rw [List.length_reverse]; exact Nat.le_refl _), List.length_reverse, Nat.sub_self]
  rfl
theorem dD_swap (p q R : List Tu) (x y : Tu) : ((dD p (y :: q) R x).set (q.length + 1) y).set q.length x = dD (p ++ [y]) q R x := by
  have h := swap_set q.reverse (p.reverse ++ R) x y
  rw [List.length_reverse] at h
  unfold dD
  rw [List.reverse_cons, List.append_assoc, List.reverse_append]
  exact h
theorem dD_start {l : List Tu} {i : Nat} {x : Tu} (h : l[i]? = some x) : (rs (l.take i)).reverse ++ l.drop i = dD [] (rs (l.take i)) (l.drop (i + 1)) x := by
  obtain ⟨hi, rfl⟩ := List.getElem?_eq_some_iff.1 h
  rw [List.drop_eq_getElem_cons hi]
  rfl
theorem dD_end {l : List Tu} {i : Nat} {x : Tu} {p q : List Tu} (h : l[i]? = some x) (he : rs (l.take i) = p ++ q) (hp : ∀ y, y ∈ p → Aft x y) (hq : ∀ y, q.head? = some y → ¬ Aft x y) : dD p q (l.drop (i + 1)) x = (rs (l.take (i + 1))).reverse ++ l.drop (i + 1) := by
  rw [rs_next h, he, ins_at hp hq]
  unfold dD
  simp
theorem TW.setAll {w : World} {g : Nat} {M : List Tu} {i : Nat} {t : Tu} (h : TW w g M) (hi : M[i]? = some t) (t' : Tu) :
    TW ((((w.setCell ⟨g, i * 4, none⟩ (.int .i64 t'.f)).setCell ⟨g, i * 4 + 1, none⟩ (.int .i64 t'.c)).setCell ⟨g, i * 4 + 2, none⟩ (.int .i64 t'.a)).setCell ⟨g, i * 4 + 3, none⟩ (.int .i64 t'.n)) g (M.set i t') := by
  have hl := (List.getElem?_eq_some_iff.1 hi).1
  have h0 := h.set (j := 0) (t' := ⟨t'.f, t.c, t.a, t.n⟩) hi (by decide) (show _ = (tuE t).set 0 (.int .i64 t'.f) from rfl)
  have h1 := h0.set (j := 1) (t' := ⟨t'.f, t'.c, t.a, t.n⟩) (List.getElem?_set_self hl) (by decide) (show _ = (tuE ⟨t'.f, t.c, t.a, t.n⟩).set 1 (.int .i64 t'.c) from rfl)
  rw [List.set_set] at h1
  have h2 := h1.set (j := 2) (t' := ⟨t'.f, t'.c, t'.a, t.n⟩) (List.getElem?_set_self hl) (by decide) (show _ = (tuE ⟨t'.f, t'.c, t.a, t.n⟩).set 2 (.int .i64 t'.a) from rfl)
  rw [List.set_set] at h2
  have h3 := h2.set (j := 3) (t' := t') (List.getElem?_set_self hl) (by decide) (show _ = (tuE ⟨t'.f, t'.c, t'.a, t.n⟩).set 3 (.int .i64 t'.n) from rfl)
  rw [List.set_set] at h3
  exact h3

set_option maxRecDepth 100000 in
set_option maxHeartbeats 12800000 in
theorem sIns_any (l : List Tu) (g cap n : Nat) (W0 w : World) (hn : l.length = n) (hl : n ≤ 20) (h0 : 0 < n) (hg : W0.heap.size ≤ g) (hW : G W0 w) (hT : TW w g l) :
    Calls Try.prog 58 #[.slice (some ⟨g, 0, none⟩) n cap, .int .i64 0, .int .i64 n, .func (.func 40) #[] #[]] w fun e w' => (∃ v, e = .returned v) ∧ TW w' g (sortT l) ∧ G W0 w' := by
  have HT := Lib.hid hT
  have HN := Lib.hid (And.intro hn (And.intro hl (And.intro h0 hg)))
  have HW := Lib.hid hW
  have H1 : Hid ((rs (l.take 1)).reverse ++ l.drop 1 = l) := Lib.hid (by
    cases l with
    | nil => exfalso; rw [List.length_nil] at hn; omega
    | cons x l => rfl)
  clear hT hn hl h0 hg hW
  go_enter Try.func58, Try.ntmps58
  go_wp2_with fail
  go_loopg [8] (n - 1) (fun q x wr => ∃ i : Nat, x = .int .i64 i ∧ q = n - i ∧ 1 ≤ i ∧ i ≤ n ∧ Hid (TW wr g ((rs (l.take i)).reverse ++ l.drop i)) ∧ G W0 wr)
  case atStart => exact ⟨1, by first | rfl | simp, by have := HN.out; omega, by omega, by have := HN.out; omega, Lib.hid (by rw [H1.out]; exact HT.out.later (by (repeat' (first | (with_reducible exact G.refl _) | (with_reducible assumption) | (with_reducible refine G.drewN ?_ _) | (with_reducible refine G.drew ?_) | (with_reducible refine G.alloc ?_ _) | (with_reducible refine G.setCell ?_ (by first | (with_reducible exact Nat.le_refl _) | (simp; done) | (simp; omega) | omega) _) | (with_reducible refine G.trans ?_ (by assumption)))))), HW.out.trans (by (repeat' (first | (with_reducible exact G.refl _) | (with_reducible assumption) | (with_reducible refine G.drewN ?_ _) | (with_reducible refine G.drew ?_) | (with_reducible refine G.alloc ?_ _) | (with_reducible refine G.setCell ?_ (by first | (with_reducible exact Nat.le_refl _) | (simp; done) | (simp; omega) | omega) _) | (with_reducible refine G.trans ?_ (by assumption)))))⟩
  case round =>
    obtain ⟨i, rfl, hq, hi1, hi, hTW, gr⟩ := hrel
    have HQ := Lib.hid hq
    clear hq
    by_cases hin : i < n
    · obtain ⟨⟨f, cc, aa, nn⟩, hp⟩ : ∃ z, l[i]? = some z := ⟨l[i]'(by have := HN.out; omega), List.getElem?_eq_getElem (by have := HN.out; omega)⟩
      have HP := Lib.hid hp
      have HS := Lib.hid (dD_start hp)
      have b2 : (i : Int) < (n : Int) := by omega
      have q1 := IntWalk.i64_in ((i : Int) + 1) (by have := HN.out; omega)
      have HRL := Lib.hid (show (rs (l.take i)).length = i by rw [rs_len, List.length_take]; have := HN.out; omega)
      have HI := Lib.hid (And.intro hi1 hin)
      clear hp hi1
      go_wp2_with fail
      go_loopg [9] i (fun k x wr2 => ∃ p q : List Tu, x = .int .i64 q.length ∧ k = q.length ∧ q.length ≤ i ∧ Hid (rs (l.take i) = p ++ q) ∧ Hid (∀ y, y ∈ p → Aft ⟨f, cc, aa, nn⟩ y) ∧ Hid (TW wr2 g (dD p q (l.drop (i + 1)) ⟨f, cc, aa, nn⟩)) ∧ G W0 wr2)
      case atStart => exact ⟨[], rs (l.take i), by rw [HRL.out], HRL.out.symm, by rw [HRL.out]; exact Nat.le_refl _, Lib.hid rfl, Lib.hid (by simp), Lib.hid (by rw [← HS.out]; exact hTW.out.later (by (repeat' (first | (with_reducible exact G.refl _) | (with_reducible assumption) | (with_reducible refine G.drewN ?_ _) | (with_reducible refine G.drew ?_) | (with_reducible refine G.alloc ?_ _) | (with_reducible refine G.setCell ?_ (by first | (with_reducible exact Nat.le_refl _) | (simp; done) | (simp; omega) | omega) _) | (with_reducible refine G.trans ?_ (by assumption)))))), gr.trans (by (repeat' (first | (with_reducible exact G.refl _) | (with_reducible assumption) | (with_reducible refine G.drewN ?_ _) | (with_reducible refine G.drew ?_) | (with_reducible refine G.alloc ?_ _) | (with_reducible refine G.setCell ?_ (by first | (with_reducible exact Nat.le_refl _) | (simp; done) | (simp; omega) | omega) _) | (with_reducible refine G.trans ?_ (by assumption)))))⟩
      case round =>
        obtain ⟨p, q, rfl, hk, hqi, hE, hA, hD, gr2⟩ := hrel
        have HK := Lib.hid hk
        clear hk
        cases q with
        | nil =>
          have HEND := Lib.hid (dD_end HP.out hE.out hA.out (by simp))
          dsimp only [List.length_nil]
          go_wp2_with fail
          go_big_region
          all_goals
            go_wp2_with fail
            go_roundg (n - (i + 1))
            case measure => have := HQ.out; have := HI.out; omega
            case rel => exact ⟨i + 1, by go_num, rfl, by omega, by have := HI.out; omega, Lib.hid (by rw [← HEND.out]; exact hD.out.later (by (repeat' (first | (with_reducible exact G.refl _) | (with_reducible assumption) | (with_reducible refine G.drewN ?_ _) | (with_reducible refine G.drew ?_) | (with_reducible refine G.alloc ?_ _) | (with_reducible refine G.setCell ?_ (by first | (with_reducible exact Nat.le_refl _) | (simp; done) | (simp; omega) | omega) _) | (with_reducible refine G.trans ?_ (by assumption)))))), gr2.trans (by (repeat' (first | (with_reducible exact G.refl _) | (with_reducible assumption) | (with_reducible refine G.drewN ?_ _) | (with_reducible refine G.drew ?_) | (with_reducible refine G.alloc ?_ _) | (with_reducible refine G.setCell ?_ (by first | (with_reducible exact Nat.le_refl _) | (simp; done) | (simp; omega) | omega) _) | (with_reducible refine G.trans ?_ (by assumption)))))⟩
        | cons y q =>
          obtain ⟨f', c', a', n'⟩ := y
          obtain ⟨m, hm⟩ : ∃ z : Nat, Hid (q.length + 1 = z) := ⟨_, rfl⟩
          rw [show (⟨f', c', a', n'⟩ :: q : List Tu).length = m from hm.out] at hqi HK ⊢
          have hx := dD_at p (⟨f', c', a', n'⟩ :: q) (l.drop (i + 1)) ⟨f, cc, aa, nn⟩
          rw [show (⟨f', c', a', n'⟩ :: q : List Tu).length = m from hm.out] at hx
          have hy := dD_bef p q (l.drop (i + 1)) ⟨f, cc, aa, nn⟩ ⟨f', c', a', n'⟩
          have HX := Lib.hid hx
          have HY := Lib.hid hy
          have hmm := hm.out
          obtain ⟨x0, u0⟩ := hD.out m _ hx 0 _ rfl
          obtain ⟨x1, u1⟩ := hD.out m _ hx 1 _ rfl
          obtain ⟨x2, u2⟩ := hD.out m _ hx 2 _ rfl
          obtain ⟨x3, u3⟩ := hD.out m _ hx 3 _ rfl
          obtain ⟨y0, v0⟩ := hD.out q.length _ hy 0 _ rfl
          obtain ⟨y1, v1⟩ := hD.out q.length _ hy 1 _ rfl
          obtain ⟨y2, v2⟩ := hD.out q.length _ hy 2 _ rfl
          obtain ⟨y3, v3⟩ := hD.out q.length _ hy 3 _ rfl
          rw [Nat.add_zero (m * 4)] at x0 u0
          rw [Nat.add_zero (q.length * 4)] at y0 v0
          have d0 : (0 : Int) < (m : Int) := by omega
          have d1 : decide (0 < (m : Int)) = true := decide_eq_true d0
          have d2 : 0 < m := by omega
          have d3 : decide (0 < m) = true := decide_eq_true d2
          have d4 : (1 : Int) ≤ (m : Int) := by omega
          have d5 : (0 : Int) ≤ (m : Int) - 1 := by omega
          have d6 : (m : Int) - 1 < (n : Int) := by omega
          have d7 : (m : Int) < (n : Int) := by omega
          have d8 := IntWalk.i64_in ((m : Int) - 1) (by have := HN.out; omega)
          have d9 : ((m : Int) - 1).toNat = q.length := by omega
          have da : (0 : Int) ≤ (m : Int) := by omega
          obtain ⟨C, hC⟩ : ∃ z : Int, Hid (z = cpr ⟨f, cc, aa, nn⟩ ⟨f', c', a', n'⟩) := ⟨_, rfl⟩
          clear hx hy hmm
          by_cases cp : C < 0
          · have HAF := Lib.hid (show Aft ⟨f, cc, aa, nn⟩ ⟨f', c', a', n'⟩ from cpr_neg.1 (by rw [← hC.out]; exact cp))
            have cq : decide (C < 0) = true := decide_eq_true cp
            go_wp2_with fail
            go_region_held3 (fun w' => w'.cell? ⟨g, m * 4, none⟩ = some (.int .i64 f) ∧ w'.cell? ⟨g, m * 4 + 1, none⟩ = some (.int .i64 cc) ∧ w'.cell? ⟨g, m * 4 + 2, none⟩ = some (.int .i64 aa) ∧ w'.cell? ⟨g, m * 4 + 3, none⟩ = some (.int .i64 nn) ∧ w'.cell? ⟨g, q.length * 4, none⟩ = some (.int .i64 f') ∧ w'.cell? ⟨g, q.length * 4 + 1, none⟩ = some (.int .i64 c') ∧ w'.cell? ⟨g, q.length * 4 + 2, none⟩ = some (.int .i64 a') ∧ w'.cell? ⟨g, q.length * 4 + 3, none⟩ = some (.int .i64 n'))
              (first | (with_reducible assumption) | ((try dsimp only); (repeat' (with_reducible apply And.intro)) <;> go_simp))
              (first | (go_at_call 40; refine (compare_any _ _ _ _ _ _ _ _ _).mono ?_; rintro x w3 ⟨rfl, hG3⟩; rw [← hC.out]; have gq : G wr w3 := G.trans (by (repeat' (first | (with_reducible exact G.refl _) | (with_reducible refine G.drewN ?_ _) | (with_reducible refine G.drew ?_) | (with_reducible refine G.alloc ?_ _)))) hG3; have X0 := gq.at x0; have X1 := gq.at x1; have X2 := gq.at x2; have X3 := gq.at x3; have Y0 := gq.at y0; have Y1 := gq.at y1; have Y2 := gq.at y2; have Y3 := gq.at y3))
            all_goals
              have U0 := (gq.frozen (cell_lt x0)).trans u0
              have U1 := (gq.frozen (cell_lt x1)).trans u1
              have U2 := (gq.frozen (cell_lt x2)).trans u2
              have U3 := (gq.frozen (cell_lt x3)).trans u3
              have V0 := (gq.frozen (cell_lt y0)).trans v0
              have V1 := (gq.frozen (cell_lt y1)).trans v1
              have V2 := (gq.frozen (cell_lt y2)).trans v2
              have V3 := (gq.frozen (cell_lt y3)).trans v3
              go_wp2_with fail
              go_big_region
              all_goals
                have T1 := (hD.out.later gq).setAll HX.out ⟨f', c', a', n'⟩
                have hne : m ≠ q.length := by have := hm.out; omega
                have T2 := T1.setAll (i := q.length) (t := ⟨f', c', a', n'⟩) (by rw [List.getElem?_set_ne hne]; exact HY.out) ⟨f, cc, aa, nn⟩
                rw [← hm.out, dD_swap p q, hm.out] at T2
                have HT2 := Lib.hid T2
                clear T1 T2 hne
                go_wp2_with fail
                go_roundg q.length
                case measure => have := HK.out; have := hm.out; omega
                case rel => exact ⟨p ++ [⟨f', c', a', n'⟩], q, by first | rfl | go_num | (rw [← hm.out]; go_num), rfl, by have := hm.out; omega, Lib.hid (by rw [hE.out, List.append_assoc]; rfl), Lib.hid (fun z hz => by
                  rcases List.mem_append.1 hz with h | h
                  · exact hA.out z h
                  · rw [List.mem_singleton.1 h]; exact HAF.out), Lib.hid (HT2.out.later (by (repeat' (first | (with_reducible exact G.refl _) | (with_reducible refine G.drewN ?_ _) | (with_reducible refine G.drew ?_) | (with_reducible refine G.alloc ?_ _))))), by
                  have g3 := gr2.trans gq
                  repeat' (first | (with_reducible exact g3) | (with_reducible refine G.drew ?_) | (with_reducible refine G.drewN ?_ _) | (with_reducible refine G.setCell ?_ (by exact HN.out.2.2.2) _))⟩
          · have HAF := Lib.hid (show ¬ Aft ⟨f, cc, aa, nn⟩ ⟨f', c', a', n'⟩ from fun h => cp (by rw [hC.out]; exact cpr_neg.2 h))
            have cq : decide (C < 0) = false := decide_eq_false cp
            have HEND := Lib.hid (dD_end HP.out hE.out hA.out (by intro y hy; simp at hy; rw [← hy]; exact HAF.out))
            go_wp2_with fail
            go_region_held3 (fun w' => w'.cell? ⟨g, m * 4, none⟩ = some (.int .i64 f) ∧ w'.cell? ⟨g, m * 4 + 1, none⟩ = some (.int .i64 cc) ∧ w'.cell? ⟨g, m * 4 + 2, none⟩ = some (.int .i64 aa) ∧ w'.cell? ⟨g, m * 4 + 3, none⟩ = some (.int .i64 nn) ∧ w'.cell? ⟨g, q.length * 4, none⟩ = some (.int .i64 f') ∧ w'.cell? ⟨g, q.length * 4 + 1, none⟩ = some (.int .i64 c') ∧ w'.cell? ⟨g, q.length * 4 + 2, none⟩ = some (.int .i64 a') ∧ w'.cell? ⟨g, q.length * 4 + 3, none⟩ = some (.int .i64 n'))
              (first | (with_reducible assumption) | ((try dsimp only); (repeat' (with_reducible apply And.intro)) <;> go_simp))
              (first | (go_at_call 40; refine (compare_any _ _ _ _ _ _ _ _ _).mono ?_; rintro x w3 ⟨rfl, hG3⟩; rw [← hC.out]; have gq : G wr w3 := G.trans (by (repeat' (first | (with_reducible exact G.refl _) | (with_reducible refine G.drewN ?_ _) | (with_reducible refine G.drew ?_) | (with_reducible refine G.alloc ?_ _)))) hG3; have X0 := gq.at x0; have X1 := gq.at x1; have X2 := gq.at x2; have X3 := gq.at x3; have Y0 := gq.at y0; have Y1 := gq.at y1; have Y2 := gq.at y2; have Y3 := gq.at y3))
            all_goals
              go_wp2_with fail
              go_roundg (n - (i + 1))
              case measure => have := HQ.out; have := HI.out; omega
              case rel => exact ⟨i + 1, by go_num, rfl, by omega, by have := HI.out; omega, Lib.hid (by rw [← HEND.out]; exact hD.out.later gq), gr2.trans gq⟩
    · have hii : i = n := by omega
      have hT2 := hTW.out
      rw [hii, List.take_of_length_le (by have := HN.out; omega), List.drop_of_length_le (by have := HN.out; omega), List.append_nil] at hT2
      have HT2 := Lib.hid hT2
      clear hT2
      go_wp2_with fail
      refine bodyPost_end (results_none rfl _ _ _) rfl ?_
      exact ⟨⟨_, rfl⟩, HT2.out, gr⟩
end Go.Proofs.Ytabaiklagobimaa
