import Derived.Test.YtnakfeamimeioaaDoorB2
import Derived.Test.YtnakfeamimeioaaDoorArr
/-! Best: the first clef of fewest lines. -/
namespace Go.Proofs.YtnakfeamimeioaaDoor
open Go.RowKit
attribute [local go_sem] World.cell?_alloc_some
def stepB (f : Int → Int) (b c : Int) : Int := if b = 0 ∨ f c < f b then c else b
def bst (f : Int → Int) (l : List Int) : Int := l.foldl (stepB f) 0
theorem bst_next {f : Int → Int} {l : List Int} {i : Nat} {c : Int} (h : l[i]? = some c) : bst f (l.take (i + 1)) = stepB f (bst f (l.take i)) c := by
  unfold bst
  rw [List.take_add_one, h, List.foldl_append]
  rfl
theorem take_mem_next {l : List Int} {i : Nat} {c d : Int} (h : l[i]? = some c) : d ∈ l.take (i + 1) ↔ d ∈ l.take i ∨ d = c := by
  rw [List.take_add_one, h]
  simp
/-- what the best of the first ones is -/
theorem bst_inv {f : Int → Int} {l : List Int} (h : ∀ c ∈ l, Cf c) : ∀ i, i ≤ l.length → (i = 0 ∧ bst f (l.take i) = 0) ∨ (0 < i ∧ Cf (bst f (l.take i)) ∧ bst f (l.take i) ∈ l.take i ∧ ∀ c ∈ l.take i, f (bst f (l.take i)) ≤ f c) := by
  intro i
  induction i with
  | zero => intro _; exact .inl ⟨rfl, by simp [bst]⟩
  | succ i ih =>
    intro hi
    obtain ⟨c, hc⟩ : ∃ c, l[i]? = some c := ⟨l[i]'(by omega), List.getElem?_eq_getElem (by omega)⟩
    have hcf : Cf c := h c (List.mem_of_getElem? hc)
    right
    rw [bst_next hc]
    rcases ih (by omega) with ⟨h0, hb⟩ | ⟨h0, hb, hm, hle⟩
    · subst h0
      rw [hb]
      have e : stepB f 0 c = c := if_pos (.inl rfl)
      rw [e]
      refine ⟨by omega, hcf, (take_mem_next hc).2 (.inr rfl), fun d hd => ?_⟩
      rcases (take_mem_next hc).1 hd with hd | rfl
      · simp at hd
      · exact Int.le_refl _
    · by_cases hlt : f c < f (bst f (l.take i))
      · have e : stepB f (bst f (l.take i)) c = c := if_pos (.inr hlt)
        rw [e]
        refine ⟨by omega, hcf, (take_mem_next hc).2 (.inr rfl), fun d hd => ?_⟩
        rcases (take_mem_next hc).1 hd with hd | rfl
        · have := hle d hd; omega
        · exact Int.le_refl _
      · have e : stepB f (bst f (l.take i)) c = bst f (l.take i) := if_neg (by unfold Cf at hb; omega)
        rw [e]
        refine ⟨by omega, hb, (take_mem_next hc).2 (.inl hm), fun d hd => ?_⟩
        rcases (take_mem_next hc).1 hd with hd | rfl
        · exact hle d hd
        · omega
/-- a clef that was looked at before changes nothing -/
theorem bst_seen {f : Int → Int} {l : List Int} (h : ∀ c ∈ l, Cf c) {i : Nat} {c : Int} (hc : l[i]? = some c) (hm : c ∈ l.take i) : bst f (l.take (i + 1)) = bst f (l.take i) := by
  have hi : i < l.length := (List.getElem?_eq_some_iff.1 hc).1
  rw [bst_next hc]
  rcases bst_inv (f := f) h i (by omega) with ⟨h0, _⟩ | ⟨_, hb, _, hle⟩
  · subst h0; simp at hm
  · have := hle c hm
    exact if_neg (by unfold Cf at hb; omega)
/-- the marks of the clefs that were looked at -/
def Seen (g : Nat) (S : List Int) (w : World) : Prop := ∀ k : Nat, k < 10 → w.cell? ⟨g, k, none⟩ = some (.bool (decide ((k : Int) ∈ S))) ∧ w.frozen? ⟨g, k, none⟩ = false
theorem Seen.later {g : Nat} {S : List Int} {a b : World} (h : Seen g S a) (k : G a b) : Seen g S b := fun j hj =>
  ⟨k.at (h j hj).1, (k.frozen (cell_lt (h j hj).1)).trans (h j hj).2⟩
theorem Seen.set {g : Nat} {S T : List Int} {a : World} (h : Seen g S a) {c : Int} (hc : Cf c) (hT : ∀ d, d ∈ T ↔ d ∈ S ∨ d = c) : Seen g T (a.setCell ⟨g, c.toNat, none⟩ (.bool true)) := fun j hj => by
  obtain ⟨c0, c1⟩ := hc
  by_cases e : j = c.toNat
  · subst e
    refine ⟨?_, by simp [go_sem]; exact (h _ hj).2⟩
    rw [World.cell?_setCell_same _ _ _ (h _ hj).1, decide_eq_true ((hT _).2 (.inr (by omega)))]
  · refine ⟨?_, by simp [go_sem]; exact (h _ hj).2⟩
    rw [World.cell?_setCell_other _ _ _ _ (by simp only [ne_eq, Addr.mk.injEq]; omega), (h _ hj).1]
    congr 2
    have : (((j : Int) ∈ S) ↔ ((j : Int) ∈ T)) := by
      rw [hT]
      exact ⟨.inl, fun k => k.elim id (fun k => absurd k (by omega))⟩
    exact decide_eq_decide.2 this
theorem Seen.new (w : World) (t : TypeId) : Seen w.heap.size [] (w.alloc (.cells #[.bool false, .bool false, .bool false, .bool false, .bool false, .bool false, .bool false, .bool false, .bool false, .bool false] t)) := fun j hj => by
  have h : j = 0 ∨ j = 1 ∨ j = 2 ∨ j = 3 ∨ j = 4 ∨ j = 5 ∨ j = 6 ∨ j = 7 ∨ j = 8 ∨ j = 9 := by omega
  rcases h with rfl | rfl | rfl | rfl | rfl | rfl | rfl | rfl | rfl | rfl <;> exact ⟨by go_cell, by simp [go_sem]⟩
set_option maxRecDepth 100000 in
set_option maxHeartbeats 6400000 in
theorem cBest_bad (a b : Option Addr) (cs : List Int) (l : List Pt) (c1 c2 : Nat) (w : World) (hl : cs.length ≤ 9) (hl2 : l.length ≤ 20) (h1 : IntsAt w a cs) (h2 : PitsAt w b l) (hT : Tab w) (hE : bkE cs l ≠ 0) :
    Calls Tryd.prog 27 #[.slice a cs.length c1, .slice b l.length c2] w fun e w' => e = .returned (.tuple #[.int .i64 0, .int .i64 (bkE cs l)]) ∧ G w w' := by
  have HT := Lib.hid hT
  have H1 := Lib.hid h1
  have H2 := Lib.hid h2
  have HL := Lib.hid hl
  have HL2 := Lib.hid hl2
  clear hT h1 h2
  obtain ⟨R, hR⟩ : ∃ z : Int, Hid (z = bkE cs l) := ⟨_, rfl⟩
  rw [← hR.out] at hE ⊢
  have b1 : (R == 0) = false := beq_false_of_ne hE
  have b2 : (R != 0) = true := by simp [bne, b1]
  clear hE
  go_enter Tryd.func27, Tryd.ntmps27
  go_wp2_with fail
  refine (checkAll_any a b cs l c1 c2 _ HL.out HL2.out (H1.out.later (by (repeat' (first | (with_reducible exact G.refl _) | (with_reducible assumption) | (with_reducible refine G.drewN ?_ _) | (with_reducible refine G.drew ?_) | (with_reducible refine G.alloc ?_ _) | (with_reducible refine G.setCell ?_ (by first | (with_reducible exact Nat.le_refl _) | (simp; done) | (simp; omega) | omega) _) | (with_reducible refine G.trans ?_ (by assumption)))))) (H2.out.later (by (repeat' (first | (with_reducible exact G.refl _) | (with_reducible assumption) | (with_reducible refine G.drewN ?_ _) | (with_reducible refine G.drew ?_) | (with_reducible refine G.alloc ?_ _) | (with_reducible refine G.setCell ?_ (by first | (with_reducible exact Nat.le_refl _) | (simp; done) | (simp; omega) | omega) _) | (with_reducible refine G.trans ?_ (by assumption)))))) (HT.out.later (by (repeat' (first | (with_reducible exact G.refl _) | (with_reducible assumption) | (with_reducible refine G.drewN ?_ _) | (with_reducible refine G.drew ?_) | (with_reducible refine G.alloc ?_ _) | (with_reducible refine G.setCell ?_ (by first | (with_reducible exact Nat.le_refl _) | (simp; done) | (simp; omega) | omega) _) | (with_reducible refine G.trans ?_ (by assumption))))))).mono ?_
  rintro e w2 ⟨rfl, hG2⟩
  rw [← hR.out]
  go_wp2_with fail
  go_returns
  exact ⟨rfl, by (repeat' (first | (with_reducible exact G.refl _) | (with_reducible assumption) | (with_reducible refine G.drewN ?_ _) | (with_reducible refine G.drew ?_) | (with_reducible refine G.alloc ?_ _) | (with_reducible refine G.setCell ?_ (by first | (with_reducible exact Nat.le_refl _) | (simp; done) | (simp; omega) | omega) _) | (with_reducible refine G.trans ?_ (by assumption))))⟩

set_option maxRecDepth 100000 in
set_option maxHeartbeats 6400000 in
theorem cBest_ok (a b : Option Addr) (cs : List Int) (l : List Pt) (c1 c2 : Nat) (w : World) (hl : cs.length ≤ 9) (hl2 : l.length ≤ 20) (h1 : IntsAt w a cs) (h2 : PitsAt w b l) (hT : Tab w) (hne : cs ≠ []) (hcf : ∀ c ∈ cs, Cf c) (hok : ∀ p ∈ l, OkP p) :
    Calls Tryd.prog 27 #[.slice a cs.length c1, .slice b l.length c2] w fun e w' => e = .returned (.tuple #[.int .i64 (bst (fun c => lnS c l) cs), .int .i64 0]) ∧ G w w' := by
  have HT := Lib.hid hT
  have H1 := Lib.hid h1
  have H2 := Lib.hid h2
  have HL := Lib.hid hl
  have HL2 := Lib.hid hl2
  have HCF := Lib.hid hcf
  have HN := Lib.hid hne
  have hE := Lib.hid (bkE_ok hne hcf hok)
  obtain ⟨f, hf⟩ : ∃ f : Int → Int, Hid (f = fun c => lnS c l) := ⟨_, rfl⟩
  rw [← hf.out]
  have HFB := Lib.hid (show ∀ c, lnS c l = f c by intro c; rw [hf.out])
  have HFN := Lib.hid (show ∀ c, 0 ≤ f c ∧ f c ≤ 2000 by intro c; have := lnS_bd c l; rw [hf.out]; show 0 ≤ lnS c l ∧ lnS c l ≤ 2000; omega)
  have hk : ((cs.length : Int) ≤ 9) := by omega
  rcases H1.out with hz | ⟨bl, o, rfl, fc⟩
  · exact absurd hz hne
  have FC := Lib.hid fc
  clear hT h1 h2 hcf hok hne fc hf
  obtain ⟨R, hR⟩ : ∃ z : Int, Hid (z = bst f cs) := ⟨_, rfl⟩
  rw [← hR.out]
  go_enter Tryd.func27, Tryd.ntmps27
  go_wp2_with fail
  refine (checkAll_any _ b cs l c1 c2 _ HL.out HL2.out (H1.out.later (by (repeat' (first | (with_reducible exact G.refl _) | (with_reducible assumption) | (with_reducible refine G.drewN ?_ _) | (with_reducible refine G.drew ?_) | (with_reducible refine G.alloc ?_ _) | (with_reducible refine G.setCell ?_ (by first | (with_reducible exact Nat.le_refl _) | (simp; done) | (simp; omega) | omega) _) | (with_reducible refine G.trans ?_ (by assumption)))))) (H2.out.later (by (repeat' (first | (with_reducible exact G.refl _) | (with_reducible assumption) | (with_reducible refine G.drewN ?_ _) | (with_reducible refine G.drew ?_) | (with_reducible refine G.alloc ?_ _) | (with_reducible refine G.setCell ?_ (by first | (with_reducible exact Nat.le_refl _) | (simp; done) | (simp; omega) | omega) _) | (with_reducible refine G.trans ?_ (by assumption)))))) (HT.out.later (by (repeat' (first | (with_reducible exact G.refl _) | (with_reducible assumption) | (with_reducible refine G.drewN ?_ _) | (with_reducible refine G.drew ?_) | (with_reducible refine G.alloc ?_ _) | (with_reducible refine G.setCell ?_ (by first | (with_reducible exact Nat.le_refl _) | (simp; done) | (simp; omega) | omega) _) | (with_reducible refine G.trans ?_ (by assumption))))))).mono ?_
  rintro e w2 ⟨rfl, hG2⟩
  rw [hE.out]
  have HS0 := Lib.hid (Seen.new w2 71)
  have g2 := Lib.hid (hG2.size)
  go_wp2_with fail
  generalize hgs : w2.heap.size = gs at *
  go_loopg [8, 9, 21] cs.length (fun k y z x wr => ∃ (i : Nat) (B N : Int), y = .int .i64 B ∧ z = .int .i64 N ∧ x = .int .i64 i ∧ k = cs.length - i ∧ i ≤ cs.length ∧ Hid (B = bst f (cs.take i)) ∧ Hid (B ≠ 0 → N = f B) ∧ Hid (0 ≤ N ∧ N ≤ 2000) ∧ Hid (Seen gs (cs.take i) wr) ∧ G w wr)
  case atStart => exact ⟨0, 0, 0, rfl, rfl, rfl, by omega, by omega, Lib.hid (by simp [bst]), Lib.hid (fun h => absurd rfl h), Lib.hid (by omega), HS0, by (repeat' (first | (with_reducible exact G.refl _) | (with_reducible assumption) | (with_reducible refine G.drewN ?_ _) | (with_reducible refine G.drew ?_) | (with_reducible refine G.alloc ?_ _) | (with_reducible refine G.setCell ?_ (by first | (with_reducible exact Nat.le_refl _) | (simp; done) | (simp; omega) | omega) _) | (with_reducible refine G.trans ?_ (by assumption))))⟩
  case round =>
    obtain ⟨i, B, N, rfl, rfl, rfl, hg, hi, hB, hN, hNb, hS, gr⟩ := hrel
    have HG := Lib.hid hg
    clear hg
    by_cases hin : i < cs.length
    · obtain ⟨c, hc⟩ : ∃ c, cs[i]? = some c := ⟨cs[i], List.getElem?_eq_getElem hin⟩
      have x0 := gr.at (FC.out i c hc)
      have HCI := Lib.hid hc
      have hcf := HCF.out c (List.mem_of_getElem? hc)
      have HC := Lib.hid hcf
      obtain ⟨d0, d1⟩ := hcf
      have b1 : (0 : Int) ≤ (i : Int) := by omega
      have b2 : (i : Int) < (cs.length : Int) := by omega
      have b3 : 0 ≤ c := by omega
      have b4 : c < 10 := by omega
      have q1 := IntWalk.i64_in ((i : Int) + 1) (by omega)
      obtain ⟨s0, s1⟩ := hS.out c.toNat (by omega)
      rw [show ((c.toNat : Nat) : Int) = c by omega] at s0
      clear hc
      by_cases hm : c ∈ cs.take i
      · rw [decide_eq_true hm] at s0
        have HB2 := Lib.hid (show B = bst f (cs.take (i + 1)) by rw [hB.out, bst_seen HCF.out HCI.out hm])
        have HS2 := Lib.hid (show Seen gs (cs.take (i + 1)) wr by
          intro k hk
          refine ⟨?_, (hS.out k hk).2⟩
          rw [(hS.out k hk).1]
          congr 2
          refine decide_eq_decide.2 ?_
          rw [take_mem_next HCI.out]
          exact ⟨.inl, fun z => z.elim id (fun z => z ▸ hm)⟩)
        clear hm
        go_wp2_with fail
        go_roundg (cs.length - (i + 1))
        case measure => have := HG.out; omega
        case rel => exact ⟨i + 1, B, N, rfl, rfl, by first | rfl | simp, rfl, by omega, HB2, hN, hNb, HS2, by (repeat' (first | (with_reducible exact G.refl _) | (with_reducible assumption) | (with_reducible refine G.drewN ?_ _) | (with_reducible refine G.drew ?_) | (with_reducible refine G.alloc ?_ _) | (with_reducible refine G.setCell ?_ (by first | (with_reducible exact Nat.le_refl _) | (simp; done) | (simp; omega) | omega) _) | (with_reducible refine G.trans ?_ (by assumption))))⟩
      · rw [decide_eq_false hm] at s0
        have HM := Lib.hid hm
        clear hm
        go_wp2_with fail
        have gS : G w (wr.setCell ⟨gs, c.toNat, none⟩ (.bool true)) := gr.setCell g2.out _
        have HS2 := Lib.hid (hS.out.set HC.out (fun d => take_mem_next (d := d) HCI.out))
        refine (lines_any c b l c2 _ HL2.out (H2.out.later gS) (HT.out.later gS)).mono ?_
        rintro e w3 ⟨rfl, hG3⟩
        rw [HFB.out]
        obtain ⟨M, hM⟩ : ∃ z : Int, Hid (z = f c) := ⟨_, rfl⟩
        rw [← hM.out]
        have HMb := Lib.hid (show 0 ≤ M ∧ M ≤ 2000 by rw [hM.out]; exact HFN.out c)
        clear s0 s1
        by_cases hB0 : B = 0
        · have HB0 := Lib.hid hB0
          have k1 : (B == 0) = true := by rw [hB0]; rfl
          clear hB0
          go_wp2_with fail
          try go_big_region
          try go_wp2_with fail
          go_roundg (cs.length - (i + 1))
          case measure => have := HG.out; omega
          case rel => exact ⟨i + 1, c, M, rfl, rfl, by first | rfl | simp, rfl, by omega, Lib.hid (by rw [bst_next HCI.out, ← hB.out]; unfold stepB; rw [if_pos (.inl HB0.out)]), Lib.hid (fun _ => hM.out), HMb, Lib.hid (HS2.out.later hG3), by first | exact gS.trans hG3 | (repeat' (first | (with_reducible exact G.refl _) | (with_reducible assumption) | (with_reducible refine G.drewN ?_ _) | (with_reducible refine G.drew ?_) | (with_reducible refine G.alloc ?_ _) | (with_reducible refine G.setCell ?_ (by first | (with_reducible exact Nat.le_refl _) | (simp; done) | (simp; omega) | omega) _) | (with_reducible refine G.trans ?_ (by assumption))))⟩
        · have HB0 := Lib.hid hB0
          have k1 : (B == 0) = false := beq_false_of_ne hB0
          have HNB := Lib.hid (hN.out hB0)
          clear hB0
          by_cases hlt : M < N
          · have HLT := Lib.hid (show f c < f B by rw [← hM.out, ← HNB.out]; exact hlt)
            have k2 : decide (M < N) = true := decide_eq_true hlt
            clear hlt
            go_wp2_with fail
            go_roundg (cs.length - (i + 1))
            case measure => have := HG.out; omega
            case rel => exact ⟨i + 1, c, M, rfl, rfl, by first | rfl | simp, rfl, by omega, Lib.hid (by rw [bst_next HCI.out, ← hB.out]; unfold stepB; rw [if_pos (.inr HLT.out)]), Lib.hid (fun _ => hM.out), HMb, Lib.hid (HS2.out.later hG3), by first | exact gS.trans hG3 | (repeat' (first | (with_reducible exact G.refl _) | (with_reducible assumption) | (with_reducible refine G.drewN ?_ _) | (with_reducible refine G.drew ?_) | (with_reducible refine G.alloc ?_ _) | (with_reducible refine G.setCell ?_ (by first | (with_reducible exact Nat.le_refl _) | (simp; done) | (simp; omega) | omega) _) | (with_reducible refine G.trans ?_ (by assumption))))⟩
          · have HLT := Lib.hid (show ¬ (B = 0 ∨ f c < f B) by rw [← hM.out, ← HNB.out]; exact fun z => z.elim HB0.out hlt)
            have k2 : decide (M < N) = false := decide_eq_false hlt
            clear hlt
            go_wp2_with fail
            go_roundg (cs.length - (i + 1))
            case measure => have := HG.out; omega
            case rel => exact ⟨i + 1, B, N, rfl, rfl, by first | rfl | simp, rfl, by omega, Lib.hid (by rw [bst_next HCI.out, ← hB.out]; unfold stepB; rw [if_neg HLT.out]), hN, hNb, Lib.hid (HS2.out.later hG3), by first | exact gS.trans hG3 | (repeat' (first | (with_reducible exact G.refl _) | (with_reducible assumption) | (with_reducible refine G.drewN ?_ _) | (with_reducible refine G.drew ?_) | (with_reducible refine G.alloc ?_ _) | (with_reducible refine G.setCell ?_ (by first | (with_reducible exact Nat.le_refl _) | (simp; done) | (simp; omega) | omega) _) | (with_reducible refine G.trans ?_ (by assumption))))⟩
    · have hii : i = cs.length := by omega
      subst hii
      have HR := Lib.hid (show R = B by rw [hR.out, hB.out, List.take_length])
      go_wp2_with fail
      go_returns
      exact ⟨by rw [HR.out]; rfl, by (repeat' (first | (with_reducible exact G.refl _) | (with_reducible assumption) | (with_reducible refine G.drewN ?_ _) | (with_reducible refine G.drew ?_) | (with_reducible refine G.alloc ?_ _) | (with_reducible refine G.setCell ?_ (by first | (with_reducible exact Nat.le_refl _) | (simp; done) | (simp; omega) | omega) _) | (with_reducible refine G.trans ?_ (by assumption))))⟩
end Go.Proofs.YtnakfeamimeioaaDoor
