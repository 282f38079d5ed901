import Derived.Test.YtabaiklagobimaaT7
import Derived.Test.YtabaiklagobimaaR2
/-! Tuplets: Tree. -/
namespace Go.Proofs.Ytabaiklagobimaa
open Go.RowKit
attribute [local go_sem] World.cell?_alloc_some

theorem IA.op {w w' : World} {g N bs : Nat} {F : Nat → Int} {v : Value} (h : IA w g N F) (k : Op w w' bs v) (h1 : g ≠ bs) (h2 : v.ownBlock ≠ some g) : IA w' g N F := fun j hj => by
  obtain ⟨c, f⟩ := h j hj
  have e := k.2 g (cell_lt c) h1 h2
  exact ⟨(World.cell?_of_block (a := ⟨g, j, none⟩) e).trans c, (World.frozen?_of_block (a := ⟨g, j, none⟩) e).trans f⟩
theorem St.aside {W0 wr : World} {bl bs BB g : Nat} {vl v : Value} {M : List Int} (h : St W0 bl bs BB vl v M wr) (h1 : bs < g) (h2 : g < BB) (j : Nat) (u : Value) : St W0 bl bs BB vl v M (wr.setCell ⟨g, j, none⟩ u) := by
  have o1 := h.o1
  have o2 := h.o2
  refine ⟨h.g.setCell (by show W0.heap.size ≤ g; omega) u, ?_, ?_, by simp [go_sem]; exact h.fs, h.row.far h2 j u, h.o1, h.o2, h.o3⟩
  · rw [World.cell?_setCell_far _ _ _ _ (by show g ≠ bl; omega)]; exact h.cl
  · rw [World.cell?_setCell_far _ _ _ _ (by show g ≠ bs; omega)]; exact h.cs
def TreeR (w' : World) (l : List Tu) (ev : Int) (v : Value) : Prop :=
  if ckT ev l = 0 then ∃ g, v = .slice (some ⟨g, 0, none⟩) l.length l.length ∧ ∀ j, j < l.length → w'.cell? ⟨g, j, none⟩ = some (.int .i64 (tr l j)) else v = .slice none 0 0
/-- what a check that passed gives, at every index -/
theorem all_at {ev : Int} {l : List Tu} (h : ckT ev l = 0) : ∀ i : Nat, i ≤ l.length → At ev l i := by
  obtain ⟨_, _, hg, hr, _⟩ := ckT_ok h
  intro i
  induction i with
  | zero => intro _; exact At.zero _ _
  | succ i ih =>
    intro hi
    have a := ih (by omega)
    have hp : l[i]? = some (l[i]'(by omega)) := List.getElem?_eq_getElem (by omega)
    have h1 := hr _ (List.mem_of_getElem? hp)
    have hrest := a.rest
    rw [hg] at hrest
    by_cases h2 : Ord (l.take i).getLast? (l[i]'(by omega))
    · rw [go_ord hp h1 h2] at hrest; exact absurd hrest (by decide)
    by_cases h3 : Tight (pop (stk (l.take i)) (l[i]'(by omega)).f) (l[i]'(by omega))
    · rw [go_tight hp h1 h2 h3] at hrest; exact absurd hrest (by decide)
    exact a.next hp h1 h2 h3
theorem tr_def {ev : Int} {l : List Tu} (h : ckT ev l = 0) {i : Nat} {t : Tu} (hp : l[i]? = some t) : wn l t i = tr l i := by
  obtain ⟨_, _, hg, hr, _⟩ := ckT_ok h
  have hi := (List.getElem?_eq_some_iff.1 hp).1
  have a := all_at h i (by omega)
  have h1 := hr _ (List.mem_of_getElem? hp)
  have hrest := a.rest
  rw [hg] at hrest
  by_cases h2 : Ord (l.take i).getLast? t
  · rw [go_ord hp h1 h2] at hrest; exact absurd hrest (by decide)
  by_cases h3 : Tight (pop (stk (l.take i)) t.f) t
  · rw [go_tight hp h1 h2 h3] at hrest; exact absurd hrest (by decide)
  exact tr_wn a hp h1 h2 h3

set_option maxRecDepth 100000 in
set_option maxHeartbeats 12800000 in
theorem Tree_any (a : Option Addr) (l : List Tu) (n c : Nat) (ev : Int) (w : World) (hn : l.length = n) (h1 : TusAt w a l) (hc : CB l) :
    Calls Try.prog 30 #[.slice a n c, .int .i64 ev] w fun e w' => ∃ v, e = .returned (.tuple #[v, .int .i64 (ckT ev l)]) ∧ TreeR w' l ev v ∧ G w w' := by
  subst hn
  have H1 := Lib.hid h1
  have HC := Lib.hid hc
  clear h1 hc
  by_cases hk : ckT ev l = 0
  rotate_left
  · obtain ⟨E, hE⟩ : ∃ z : Int, Hid (ckT ev l = z) := ⟨_, rfl⟩
    have HN := Lib.hid hk
    rw [hE.out] at hk ⊢
    have e3 : (E == 0) = false := beq_false_of_ne hk
    have e4 : (E != 0) = true := by simp [bne, e3]
    clear hk
    go_enter Try.func30, Try.ntmps30
    go_wp2_with fail
    refine (tCheck_any a l _ c _ _ rfl (H1.out.later (by (repeat' (first | (with_reducible exact G.refl _) | (with_reducible assumption) | (with_reducible refine G.drewN ?_ _) | (with_reducible refine G.drew ?_) | (with_reducible refine G.alloc ?_ _) | (with_reducible refine G.setCell ?_ (by first | (with_reducible exact Nat.le_refl _) | (simp; done) | (simp; omega) | omega) _) | (with_reducible refine G.trans ?_ (by assumption)))))) HC.out).mono ?_
    rintro e w1 ⟨rfl, hG⟩
    rw [hE.out]
    go_wp2_with fail
    go_returns
    exact ⟨_, rfl, by unfold TreeR; rw [if_neg HN.out]; rfl, by (repeat' (first | (with_reducible exact G.refl _) | (with_reducible assumption) | (with_reducible refine G.drewN ?_ _) | (with_reducible refine G.drew ?_) | (with_reducible refine G.alloc ?_ _) | (with_reducible refine G.setCell ?_ (by first | (with_reducible exact Nat.le_refl _) | (simp; done) | (simp; omega) | omega) _) | (with_reducible refine G.trans ?_ (by assumption))))⟩
  have HK := Lib.hid hk
  have HKO := Lib.hid (ckT_ok hk)
  have hl16 := (ckT_ok hk).2.1
  have HL := Lib.hid hl16
  rw [hk]
  have hmk := make_ints l.length (by omega)
  clear hk hl16
  go_enter Try.func30, Try.ntmps30
  go_wp2_with fail
  refine (tCheck_any a l _ c _ _ rfl (H1.out.later (by (repeat' (first | (with_reducible exact G.refl _) | (with_reducible assumption) | (with_reducible refine G.drewN ?_ _) | (with_reducible refine G.drew ?_) | (with_reducible refine G.alloc ?_ _) | (with_reducible refine G.setCell ?_ (by first | (with_reducible exact Nat.le_refl _) | (simp; done) | (simp; omega) | omega) _) | (with_reducible refine G.trans ?_ (by assumption)))))) HC.out).mono ?_
  rintro e w1 ⟨rfl, hG⟩
  rw [HK.out]
  have g1 : G w w1 := G.trans (by (repeat' (first | (with_reducible exact G.refl _) | (with_reducible refine G.drewN ?_ _) | (with_reducible refine G.drew ?_) | (with_reducible refine G.alloc ?_ _)))) hG
  go_wp2_with fail
  refine (opener_any a _ c _).mono ?_
  rintro e w2 ⟨bl, bs, rfl, hSt⟩
  have g2 : G w w2 := g1.trans (G.trans (by (repeat' (first | (with_reducible exact G.refl _) | (with_reducible refine G.drewN ?_ _) | (with_reducible refine G.drew ?_) | (with_reducible refine G.alloc ?_ _)))) hSt.g)
  have HS0 := Lib.hid hSt
  clear hSt
  go_wp2_with fail
  have c0 := Lib.hid (IA.new w2 l.length 3)
  have gW : G w2 (w2.alloc (.cells (madeCells #[.int .i64 0] l.length) 3)) := by (repeat' (first | (with_reducible exact G.refl _) | (with_reducible assumption) | (with_reducible refine G.drewN ?_ _) | (with_reducible refine G.drew ?_) | (with_reducible refine G.alloc ?_ _) | (with_reducible refine G.setCell ?_ (by first | (with_reducible exact Nat.le_refl _) | (simp; done) | (simp; omega) | omega) _) | (with_reducible refine G.trans ?_ (by assumption))))
  have HSZ : Hid ((w2.alloc (.cells (madeCells #[.int .i64 0] l.length) 3)).heap.size = w2.heap.size + 1) := Lib.hid (by simp)
  clear hmk
  generalize w2.alloc (.cells (madeCells #[.int .i64 0] l.length) 3) = W at *
  obtain ⟨g, hg⟩ : ∃ z : Nat, Hid (w2.heap.size = z) := ⟨_, rfl⟩
  have HBG := Lib.hid (show bs < g by have := cell_lt HS0.out.cs; rw [hg.out] at this; exact this)
  have HS1 := Lib.hid ((HS0.out.later gW).base (B2 := g + 1) (by have := HBG.out; omega))
  have HGS := Lib.hid (show w.heap.size ≤ g by have := g2.size; rw [hg.out] at this; exact this)
  rw [hg.out] at c0 HSZ ⊢
  clear HS0
  go_loopg [23] l.length (fun q x wr => ∃ (i : Nat) (v : Value) (F : Nat → Int), x = .int .i64 i ∧ q = l.length - i ∧ i ≤ l.length ∧ Hid (∀ j, j < i → F j = tr l j) ∧ Hid (St _ bl bs (g + 1) (.slice a l.length c) v (stM (istk l i)) wr) ∧ Hid (IA wr g l.length F) ∧ g + 1 ≤ wr.heap.size ∧ G w wr)
  case atStart => exact ⟨0, _, _, rfl, by omega, by omega, Lib.hid (fun j h => by omega), HS1, c0, by rw [HSZ.out]; exact Nat.le_refl _, g2.trans gW⟩
  case round =>
    obtain ⟨i, v, F, rfl, hq, hi, hA, hSt, hIA, hgs, gr⟩ := hrel
    have HQ := Lib.hid hq
    clear hq
    by_cases hin : i < l.length
    · have HIN := Lib.hid hin
      have HBD := Lib.hid (show ∀ k t, k ≤ i → l[k]? = some t → 0 ≤ t.f ∧ 0 ≤ t.c ∧ t.f + t.c ≤ 128 from fun k t h1 h2 => by
        have := HKO.out.2.2.2.1 t (List.mem_of_getElem? h2)
        have := HKO.out.1
        unfold InR at *
        omega)
      have HNG := Lib.hid (show v.ownBlock ≠ some g from fun e => by have := hSt.out.row.own g e; omega)
      have b1 : (0 : Int) ≤ (i : Int) := by omega
      have b2 : (i : Int) < (l.length : Int) := by omega
      have q1 := IntWalk.i64_in ((i : Int) + 1) (by have := HL.out; omega)
      have HGZ := Lib.hid hgs
      clear hgs
      go_wp2_with fail
      refine (open_any _ _ l l.length c bl bs (g + 1) i v _ rfl (H1.out.later (g1.trans (by (repeat' (first | (with_reducible exact G.refl _) | (with_reducible assumption) | (with_reducible refine G.drewN ?_ _) | (with_reducible refine G.drew ?_) | (with_reducible refine G.alloc ?_ _) | (with_reducible refine G.setCell ?_ (by first | (with_reducible exact Nat.le_refl _) | (simp; done) | (simp; omega) | omega) _) | (with_reducible refine G.trans ?_ (by assumption))))))) (by have := HL.out; omega) (by first | exact HGZ.out | exact Nat.le_trans HGZ.out (G.size (show G wr _ by (repeat' (first | (with_reducible exact G.refl _) | (with_reducible assumption) | (with_reducible refine G.drewN ?_ _) | (with_reducible refine G.drew ?_) | (with_reducible refine G.alloc ?_ _) | (with_reducible refine G.setCell ?_ (by first | (with_reducible exact Nat.le_refl _) | (simp; done) | (simp; omega) | omega) _) | (with_reducible refine G.trans ?_ (by assumption))))))) (hSt.out.later (by (repeat' (first | (with_reducible exact G.refl _) | (with_reducible assumption) | (with_reducible refine G.drewN ?_ _) | (with_reducible refine G.drew ?_) | (with_reducible refine G.alloc ?_ _) | (with_reducible refine G.setCell ?_ (by first | (with_reducible exact Nat.le_refl _) | (simp; done) | (simp; omega) | omega) _) | (with_reducible refine G.trans ?_ (by assumption)))))) HIN.out (fun k t h1 h2 => HBD.out k t h1 h2)).mono ?_
      rintro e w4 ⟨v4, rfl, hS4, hOp4⟩
      have A4 := Lib.hid (hIA.out.op hOp4 (by have := HBG.out; omega) HNG.out)
      obtain ⟨y0, y1⟩ := A4.out i HIN.out
      have HS4 := Lib.hid (hS4.aside HBG.out (Nat.lt_succ_self g) i (.int .i64 (tr l i)))
      have g4 : G w w4 := g1.trans hS4.g
      have HZ4 := Lib.hid (Nat.le_trans HGZ.out hOp4.1)
      clear hS4 hOp4
      go_wp2_with fail
      go_roundg (l.length - (i + 1))
      case measure => have := HQ.out; omega
      case rel => exact ⟨i + 1, v4, updN F i (tr l i), by first | rfl | go_num, rfl, by omega, Lib.hid (fun j hj => by
        unfold updN
        by_cases e : j = i
        · rw [if_pos e, e]
        · rw [if_neg e]; exact hA.out j (by omega)), HS4, Lib.hid (A4.out.set HIN.out _), by have := HZ4.out; simp [World.setCell]; omega, g4.setCell (by exact HGS.out) _⟩
    · have hii : i = l.length := by omega
      subst hii
      go_wp2_with fail
      go_returns
      refine ⟨.slice (some ⟨g, 0, none⟩) l.length l.length, rfl, ?_, by (repeat' (first | (with_reducible exact G.refl _) | (with_reducible assumption) | (with_reducible refine G.drewN ?_ _) | (with_reducible refine G.drew ?_) | (with_reducible refine G.alloc ?_ _) | (with_reducible refine G.setCell ?_ (by first | (with_reducible exact Nat.le_refl _) | (simp; done) | (simp; omega) | omega) _) | (with_reducible refine G.trans ?_ (by assumption))))⟩
      unfold TreeR
      rw [if_pos HK.out]
      exact ⟨g, rfl, fun j hj => by rw [← hA.out j hj]; exact (hIA.out j hj).1⟩
end Go.Proofs.Ytabaiklagobimaa
