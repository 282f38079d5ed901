import Derived.Test.YtghlecocnflbnaaDoorR4
/-! Accidentals: equal marks. -/
namespace Go.Proofs.YtghlecocnflbnaaDoor
open Go.RowKit
attribute [local go_sem] World.cell?_alloc_some

def MksAt (w : World) (a : Option Addr) (M : List (Int × Bool)) : Prop :=
  M = [] ∨ ∃ b, a = some ⟨b, 0, none⟩ ∧ ∀ (i : Nat) (m : Int × Bool), M[i]? = some m → w.cell? ⟨b, i * 2, none⟩ = some (.int .i64 m.1) ∧ w.cell? ⟨b, i * 2 + 1, none⟩ = some (.bool m.2)
theorem MksAt.later {w w' : World} {a : Option Addr} {M : List (Int × Bool)} (h : MksAt w a M) (g : G w w') : MksAt w' a M := by
  rcases h with h | ⟨b, h, k⟩
  · exact .inl h
  · exact .inr ⟨b, h, fun i x hx => ⟨g.at (k i x hx).1, g.at (k i x hx).2⟩⟩
theorem Row.mks {e : TypeId} {base : Nat} {w : World} {v : Value} {M : List (Int × Bool)} (h : Row mkE2 e 2 base w v M) : ∃ a c, v = .slice a M.length c ∧ MksAt w a M := by
  rcases h.cells mkE2_len with ⟨rfl, rfl⟩ | ⟨g, cap, rfl, _, _, _, hc⟩
  · exact ⟨none, 0, rfl, .inl rfl⟩
  · exact ⟨_, _, rfl, .inr ⟨g, rfl, fun i n hn => ⟨(hc i n hn 0 _ rfl).1, (hc i n hn 1 _ rfl).1⟩⟩⟩
set_option maxRecDepth 100000 in
set_option maxHeartbeats 3200000 in
theorem marks_eq (a b : Option Addr) (M : List (Int × Bool)) (n c d : Nat) (w : World) (hn : M.length = n) (hl : n ≤ 2561) (h1 : MksAt w a M) (h2 : MksAt w b M) :
    Calls Tryd.prog 18 #[.slice a n c, .slice b n d] w fun e w' => e = .returned (.bool true) ∧ G w w' := by
  subst hn
  have H1 := Lib.hid h1
  have H2 := Lib.hid h2
  clear h1 h2
  go_enter Tryd.func18, Tryd.ntmps18
  go_wp2_with fail
  go_loopg [5] M.length (fun q x wr => ∃ i : Nat, x = .int .i64 i ∧ q = M.length - i ∧ i ≤ M.length ∧ G w wr)
  case atStart => exact ⟨0, rfl, by omega, by omega, by (repeat' (first | (with_reducible exact G.refl _) | (with_reducible assumption) | (with_reducible refine G.drewN ?_ _) | (with_reducible refine G.drew ?_) | (with_reducible refine G.alloc ?_ _) | (with_reducible refine G.setCell ?_ (by first | (with_reducible exact Nat.le_refl _) | (simp; done) | (simp; omega) | omega) _) | (with_reducible refine G.trans ?_ (by assumption))))⟩
  case round =>
    obtain ⟨i, rfl, hq, hi, gr⟩ := hrel
    have HQ := Lib.hid hq
    clear hq
    by_cases hin : i < M.length
    · obtain ⟨⟨k, p⟩, hp⟩ : ∃ c, M[i]? = some c := ⟨M[i], List.getElem?_eq_getElem hin⟩
      rcases H1.out with hz | ⟨ba, rfl, fa⟩
      · rw [hz] at hin; exact absurd hin (by simp)
      rcases H2.out with hz | ⟨bb, rfl, fb⟩
      · rw [hz] at hin; exact absurd hin (by simp)
      obtain ⟨x0, x1⟩ := fa i _ hp
      obtain ⟨y0, y1⟩ := fb i _ hp
      replace x0 := gr.at x0
      replace x1 := gr.at x1
      replace y0 := gr.at y0
      replace y1 := gr.at y1
      dsimp only at x0 x1 y0 y1
      have b1 : (0 : Int) ≤ (i : Int) := by omega
      have b2 : (i : Int) < (M.length : Int) := by omega
      have q1 := IntWalk.i64_in ((i : Int) + 1) (by omega)
      have k1 : (k == k) = true := by simp
      have k2 : (k != k) = false := by simp
      have k3 : (p == p) = true := by simp
      have k4 : (p != p) = false := by simp
      clear fa fb hp
      go_wp2_with fail
      go_big_region
      all_goals
        go_wp2_with fail
        go_roundg (M.length - (i + 1))
        case measure => have := HQ.out; omega
        case rel => exact ⟨i + 1, by first | rfl | simp, rfl, by omega, by (repeat' (first | (with_reducible exact G.refl _) | (with_reducible assumption) | (with_reducible refine G.drewN ?_ _) | (with_reducible refine G.drew ?_) | (with_reducible refine G.alloc ?_ _) | (with_reducible refine G.setCell ?_ (by first | (with_reducible exact Nat.le_refl _) | (simp; done) | (simp; omega) | omega) _) | (with_reducible refine G.trans ?_ (by assumption))))⟩
    · have hii : i = M.length := by omega
      subst hii
      go_wp2_with fail
      go_ret
      exact ⟨rfl, by (repeat' (first | (with_reducible exact G.refl _) | (with_reducible assumption) | (with_reducible refine G.drewN ?_ _) | (with_reducible refine G.drew ?_) | (with_reducible refine G.alloc ?_ _) | (with_reducible refine G.setCell ?_ (by first | (with_reducible exact Nat.le_refl _) | (simp; done) | (simp; omega) | omega) _) | (with_reducible refine G.trans ?_ (by assumption))))⟩
end Go.Proofs.YtghlecocnflbnaaDoor
