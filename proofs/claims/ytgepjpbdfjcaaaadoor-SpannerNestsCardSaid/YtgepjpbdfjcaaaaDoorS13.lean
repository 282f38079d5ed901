import Derived.Test.YtgepjpbdfjcaaaaDoorRw
import Derived.Test.YtgepjpbdfjcaaaaDoorS11
import Derived.Maps.AppendAt
/-! Spanners: lists converted. -/
namespace Go.Proofs.YtgepjpbdfjcaaaaDoor
open Go.RowKit
attribute [local go_sem] World.cell?_alloc_some

set_option maxRecDepth 100000 in
set_option maxHeartbeats 6400000 in
theorem list_any (a : Option Addr) (l : List Sp) (n c : Nat) (w : World) (hn : l.length = n) (hl : n ≤ 20) (h1 : SpsAt w a l) :
    Calls Tryd.prog 23 #[.slice a n c] w fun e w' => ∃ v, e = .returned v ∧ Row spE 31 9 w.heap.size w' v l ∧ G w w' := by
  subst hn
  obtain ⟨i0, hi0, hz0, hz1, hz2⟩ := info_parts' sInfo
  have H1 := Lib.hid h1
  clear h1
  go_enter Tryd.func23, Tryd.ntmps23
  go_wp2_with fail
  go_loopg [3, 4] l.length (fun q y x wr => ∃ (i : Nat) (v : Value), v = y ∧ x = .int .i64 i ∧ q = l.length - i ∧ i ≤ l.length ∧ Hid (Row spE 31 9 w.heap.size wr v (l.take i)) ∧ G w wr)
  case atStart => exact ⟨0, _, rfl, rfl, by omega, by omega, Lib.hid (by simpa using Row.nil (enc := spE) w), by (repeat' (first | (with_reducible exact G.refl _) | (with_reducible assumption) | (with_reducible refine G.drewN ?_ _) | (with_reducible refine G.drew ?_) | (with_reducible refine G.alloc ?_ _) | (with_reducible refine G.setCell ?_ (by first | (with_reducible exact Nat.le_refl _) | (simp; done) | (simp; omega) | omega) _) | (with_reducible refine G.trans ?_ (by assumption))))⟩
  case round =>
    obtain ⟨i, v, rfl, rfl, hq, hi', hR, gr⟩ := hrel
    have HQ := Lib.hid hq
    clear hq
    by_cases hin : i < l.length
    · obtain ⟨x, hp⟩ : ∃ c, l[i]? = some c := ⟨l[i], List.getElem?_eq_getElem hin⟩
      rcases H1.out with hz | ⟨bl, of, rfl, fc⟩
      · rw [hz] at hin; exact absurd hin (by simp)
      obtain ⟨x0, x1, x2, x3, x4, x5, x6, x7, x8⟩ := (fc i _ hp).later gr
      have HX := Lib.hid (show l.take (i + 1) = l.take i ++ [x] from take_one hp)
      have HLT := Lib.hid (show (l.take i).length = i by rw [List.length_take]; omega)
      have b1 : (0 : Int) ≤ (i : Int) := by omega
      have b2 : (i : Int) < (l.length : Int) := by omega
      have b3 : (i : Int) < 20 := by omega
      have q1 := IntWalk.i64_in ((i : Int) + 1) (by omega)
      have hsz := gr.size
      clear fc hp
      go_wp2_with fail
      refine (own_any x _).mono ?_
      rintro e w3 ⟨rfl, hG3⟩
      have g3 : G wr w3 := by (repeat' (first | (with_reducible exact G.refl _) | (with_reducible assumption) | (with_reducible refine G.drewN ?_ _) | (with_reducible refine G.drew ?_) | (with_reducible refine G.alloc ?_ _) | (with_reducible refine G.setCell ?_ (by first | (with_reducible exact Nat.le_refl _) | (simp; done) | (simp; omega) | omega) _) | (with_reducible refine G.trans ?_ (by assumption))))
      have hs3 := g3.size
      go_wp2_with (at_builtin; refine wpList_append_own _ rfl _ _ 43 rfl w.heap.size 31 i0 (.agg #[.int .i64 0, .int .i64 0, .int .i64 0, .int .i64 0, .int .i64 0, .int .i64 0, .int .i64 0, .int .i64 0, .int .i64 0]) 9 72 Tryd.underlying43 hi0 hz0 hz1 hz2 rfl (by decide) v (l.take i).length ((l.take i).flatMap spE) rfl (hR.out.later (by (repeat' (first | (with_reducible exact G.refl _) | (with_reducible assumption) | (with_reducible refine G.drewN ?_ _) | (with_reducible refine G.drew ?_) | (with_reducible refine G.alloc ?_ _) | (with_reducible refine G.setCell ?_ (by first | (with_reducible exact Nat.le_refl _) | (simp; done) | (simp; omega) | omega) _) | (with_reducible refine G.trans ?_ (by assumption)))))) ⟨w3.heap.size, 0, none⟩ 1 1 [.int .i64 x.k, .int .i64 x.f.m, .int .i64 x.f.a, .int .i64 x.f.s, .int .i64 x.f.v, .int .i64 x.t.m, .int .i64 x.t.a, .int .i64 x.t.s, .int .i64 x.t.v] rfl rfl (new_add _ _ [.int .i64 x.k, .int .i64 x.f.m, .int .i64 x.f.a, .int .i64 x.f.s, .int .i64 x.f.v, .int .i64 x.t.m, .int .i64 x.t.a, .int .i64 x.t.s, .int .i64 x.t.v] _ (by simp)) (by simp [Value.oneCell']) (by unfold maxLen; rw [HLT.out]; omega) (by rw [HLT.out]; omega) (by simp; omega) ?_; intro v' w6 hown' hgrow _)
      have RN := Lib.hid (Row.more (enc := spE) (M := l.take i) (x := x) hown')
      have gN : G w w6 := Below.grown (B := w.heap.size) (show G w _ by (repeat' (first | (with_reducible exact G.refl _) | (with_reducible assumption) | (with_reducible refine G.drewN ?_ _) | (with_reducible refine G.drew ?_) | (with_reducible refine G.alloc ?_ _) | (with_reducible refine G.setCell ?_ (by first | (with_reducible exact Nat.le_refl _) | (simp; done) | (simp; omega) | omega) _) | (with_reducible refine G.trans ?_ (by assumption))))) hgrow (by simp; omega) (fun k hk => hR.out.own k hk)
      go_roundg (l.length - (i + 1))
      case measure => have := HQ.out; omega
      case rel => exact ⟨i + 1, v', rfl, by first | rfl | simp, rfl, by omega, Lib.hid (by rw [HX.out]; exact RN.out), gN⟩
    · have hii : i = l.length := by omega
      subst hii
      rw [List.take_length] at hR
      go_wp2_with fail
      go_ret
      exact ⟨_, rfl, hR.out, gr⟩
end Go.Proofs.YtgepjpbdfjcaaaaDoor
