import Derived.Test.YtghlecocnflbnaaDoorA2
/-! Accidentals: lists of notes; their errors. -/
namespace Go.Proofs.YtghlecocnflbnaaDoor
open Go.RowKit
attribute [local go_sem] World.cell?_alloc_some

/-- six cells of a note -/
def Nt6 (w : World) (b o : Nat) (n : Nt) : Prop :=
  w.cell? ⟨b, o, none⟩ = some (.int .i64 n.t) ∧ w.cell? ⟨b, o + 1, none⟩ = some (.int .i64 n.st) ∧ w.cell? ⟨b, o + 2, none⟩ = some (.int .i64 n.al) ∧
  w.cell? ⟨b, o + 3, none⟩ = some (.int .i64 n.oc) ∧ w.cell? ⟨b, o + 4, none⟩ = some (.bool n.hd) ∧ w.cell? ⟨b, o + 5, none⟩ = some (.int .i64 n.sh)
theorem Nt6.later {w w' : World} {b o : Nat} {n : Nt} (h : Nt6 w b o n) (g : G w w') : Nt6 w' b o n :=
  ⟨g.at h.1, g.at h.2.1, g.at h.2.2.1, g.at h.2.2.2.1, g.at h.2.2.2.2.1, g.at h.2.2.2.2.2⟩
/-- the notes of a slice lie in a world -/
def NtsAt (w : World) (a : Option Addr) (l : List Nt) : Prop :=
  l = [] ∨ ∃ b o, a = some ⟨b, o, none⟩ ∧ ∀ (i : Nat) (n : Nt), l[i]? = some n → Nt6 w b (o + i * 6) n
theorem NtsAt.later {w w' : World} {a : Option Addr} {l : List Nt} (h : NtsAt w a l) (g : G w w') : NtsAt w' a l := by
  rcases h with h | ⟨b, o, h, k⟩
  · exact .inl h
  · exact .inr ⟨b, o, h, fun i x hx => (k i x hx).later g⟩
theorem take_at {α : Type} {l : List α} {k i : Nat} {x : α} (h : (l.take k)[i]? = some x) : l[i]? = some x := by
  rw [List.getElem?_take] at h
  split at h
  · exact h
  · cases h
theorem NtsAt.take {w : World} {a : Option Addr} {l : List Nt} (h : NtsAt w a l) (k : Nat) : NtsAt w a (l.take k) := by
  rcases h with h | ⟨b, o, h, f⟩
  · exact .inl (by rw [h]; simp)
  · exact .inr ⟨b, o, h, fun i x hx => f i x (take_at hx)⟩
/-- a box of six cells in a later world -/
theorem six_at {W w1 : World} {n : Nat} {a b c d e f : Value} {t : TypeId} (hs : W.heap.size = n) (h : G (W.alloc (.cells #[a, b, c, d, e, f] t)) w1) :
    w1.cell? ⟨n, 0, none⟩ = some a ∧ w1.cell? ⟨n, 1, none⟩ = some b ∧ w1.cell? ⟨n, 2, none⟩ = some c ∧ w1.cell? ⟨n, 3, none⟩ = some d ∧ w1.cell? ⟨n, 4, none⟩ = some e ∧ w1.cell? ⟨n, 5, none⟩ = some f := by
  subst hs
  refine ⟨?_, ?_, ?_, ?_, ?_, ?_⟩ <;> (rw [h.cell (by simp)]; go_cell)
theorem ckA_split (f : Int) (l : List Nt) : ckA f l = if ckH f l.length = 0 then ckL 0 l else ckH f l.length := by
  unfold ckA ckH
  by_cases h : Sg f
  · rw [if_pos h, if_pos h]
    by_cases k : l.length ≤ 2560
    · rw [if_pos k, if_pos k, if_pos rfl]
    · rw [if_neg k, if_neg k]; rfl
  · rw [if_neg h, if_neg h]; rfl
theorem ckH_len {f : Int} {n : Nat} (h : ckH f n = 0) : Sg f ∧ n ≤ 2560 := by
  unfold ckH at h
  by_cases c : Sg f
  · rw [if_pos c] at h
    by_cases k : n ≤ 2560
    · exact ⟨c, k⟩
    · rw [if_neg k] at h; exact absurd h (by decide)
  · rw [if_neg c] at h; exact absurd h (by decide)

set_option maxRecDepth 100000 in
set_option maxHeartbeats 3200000 in
theorem checkNotes_any (f : Int) (a : Option Addr) (l : List Nt) (n c : Nat) (w : World) (hn : l.length = n) (h1 : NtsAt w a l) :
    Calls Tryd.prog 27 #[.int .i64 f, .slice a n c] w fun e w' => e = .returned (.int .i64 (ckA f l)) ∧ G w w' := by
  subst hn
  have H1 := Lib.hid h1
  clear h1
  obtain ⟨R, hR⟩ : ∃ z : Int, Hid (z = ckA f l) := ⟨_, rfl⟩
  rw [← hR.out]
  by_cases h0 : ckH f l.length = 0
  · have H0 := Lib.hid h0
    have hlen := (ckH_len h0).2
    have HR := Lib.hid (show R = ckL 0 l by rw [hR.out, ckA_split, if_pos h0])
    clear h0 hR
    go_enter Tryd.func27, Tryd.ntmps27
    go_wp2_with fail
    refine (aCheck_any f _ _).mono ?_
    rintro e w1 ⟨rfl, rfl⟩
    rw [H0.out]
    go_wp2_with fail
    go_loopg [6, 19] l.length (fun k y x wr => ∃ (i : Nat) (B : Int), y = .int .i64 B ∧ x = .int .i64 i ∧ k = l.length - i ∧ i ≤ l.length ∧ Hid (R = ckL B (l.drop i)) ∧ G w wr)
    case atStart => exact ⟨0, 0, rfl, rfl, by omega, by omega, Lib.hid (by rw [HR.out]; rfl), by (repeat' (first | (with_reducible exact G.refl _) | (with_reducible assumption) | (with_reducible refine G.drewN ?_ _) | (with_reducible refine G.drew ?_) | (with_reducible refine G.alloc ?_ _) | (with_reducible refine G.setCell ?_ (by first | (with_reducible exact Nat.le_refl _) | (simp; done) | (simp; omega) | omega) _) | (with_reducible refine G.trans ?_ (by assumption))))⟩
    case round =>
      obtain ⟨i, B, rfl, rfl, hg, hi, hA, gr⟩ := hrel
      have HG := Lib.hid hg
      clear hg
      by_cases hin : i < l.length
      · obtain ⟨⟨t, s, al, o, h, d⟩, hp⟩ : ∃ c, l[i]? = some c := ⟨l[i], List.getElem?_eq_getElem hin⟩
        rcases H1.out with hz | ⟨bl, of, rfl, fc⟩
        · rw [hz] at hin; exact absurd hin (by simp)
        obtain ⟨x0, x1, x2, x3, x4, x5⟩ := (fc i _ hp).later gr
        dsimp only at x0 x1 x2 x3 x4 x5
        have HP := Lib.hid hp
        clear fc hp
        have b1 : (0 : Int) ≤ (i : Int) := by omega
        have b2 : (i : Int) < (l.length : Int) := by omega
        have q1 := IntWalk.i64_in ((i : Int) + 1) (by omega)
        obtain ⟨E, hE⟩ : ∃ z : Int, Hid (z = ckN B ⟨t, s, al, o, h, d⟩) := ⟨_, rfl⟩
        by_cases e0 : E = 0
        · have HE := Lib.hid (hE.out.symm.trans e0)
          have HA := Lib.hid (hA.out.trans (ckL_step HP.out HE.out))
          dsimp only at HA
          clear e0 hE E
          go_wp2_with fail
          refine (nCheck_any _ _ _ _ _ _ _ _).mono ?_
          rintro e w2 ⟨rfl, hG2⟩
          obtain ⟨z0, z1, z2, z3, z4, z5⟩ := six_at rfl hG2
          rw [HE.out]
          go_wp2_with fail
          go_roundg (l.length - (i + 1))
          case measure => have := HG.out; omega
          case rel => exact ⟨i + 1, t, rfl, by first | rfl | simp, rfl, by omega, HA, by (repeat' (first | (with_reducible exact G.refl _) | (with_reducible assumption) | (with_reducible refine G.drewN ?_ _) | (with_reducible refine G.drew ?_) | (with_reducible refine G.alloc ?_ _) | (with_reducible refine G.setCell ?_ (by first | (with_reducible exact Nat.le_refl _) | (simp; done) | (simp; omega) | omega) _) | (with_reducible refine G.trans ?_ (by assumption))))⟩
        · have HE := Lib.hid hE.out.symm
          have HR2 := Lib.hid (show R = E by rw [hA.out, ckL_stop HP.out (by rw [← hE.out]; exact e0), ← hE.out])
          have b3 : (E == 0) = false := beq_false_of_ne e0
          have b4 : (E != 0) = true := by simp [bne, b3]
          clear e0
          go_wp2_with fail
          refine (nCheck_any _ _ _ _ _ _ _ _).mono ?_
          rintro e w2 ⟨rfl, hG2⟩
          rw [HE.out]
          go_wp2_with fail
          go_ret
          exact ⟨by rw [HR2.out]; rfl, by (repeat' (first | (with_reducible exact G.refl _) | (with_reducible assumption) | (with_reducible refine G.drewN ?_ _) | (with_reducible refine G.drew ?_) | (with_reducible refine G.alloc ?_ _) | (with_reducible refine G.setCell ?_ (by first | (with_reducible exact Nat.le_refl _) | (simp; done) | (simp; omega) | omega) _) | (with_reducible refine G.trans ?_ (by assumption))))⟩
      · have hii : i = l.length := by omega
        subst hii
        have HR2 := Lib.hid (show R = 0 by rw [hA.out, List.drop_length]; rfl)
        go_wp2_with fail
        go_ret
        exact ⟨by rw [HR2.out]; rfl, by (repeat' (first | (with_reducible exact G.refl _) | (with_reducible assumption) | (with_reducible refine G.drewN ?_ _) | (with_reducible refine G.drew ?_) | (with_reducible refine G.alloc ?_ _) | (with_reducible refine G.setCell ?_ (by first | (with_reducible exact Nat.le_refl _) | (simp; done) | (simp; omega) | omega) _) | (with_reducible refine G.trans ?_ (by assumption))))⟩
  · have HR := Lib.hid (show ckH f l.length = R by rw [hR.out, ckA_split, if_neg h0])
    rw [HR.out] at h0
    have b3 : (R == 0) = false := beq_false_of_ne h0
    have b4 : (R != 0) = true := by simp [bne, b3]
    clear h0 hR
    go_enter Tryd.func27, Tryd.ntmps27
    go_wp2_with fail
    refine (aCheck_any f _ _).mono ?_
    rintro e w1 ⟨rfl, rfl⟩
    rw [HR.out]
    go_wp2_with fail
    go_ret
    exact ⟨rfl, by (repeat' (first | (with_reducible exact G.refl _) | (with_reducible assumption) | (with_reducible refine G.drewN ?_ _) | (with_reducible refine G.drew ?_) | (with_reducible refine G.alloc ?_ _) | (with_reducible refine G.setCell ?_ (by first | (with_reducible exact Nat.le_refl _) | (simp; done) | (simp; omega) | omega) _) | (with_reducible refine G.trans ?_ (by assumption))))⟩
end Go.Proofs.YtghlecocnflbnaaDoor
