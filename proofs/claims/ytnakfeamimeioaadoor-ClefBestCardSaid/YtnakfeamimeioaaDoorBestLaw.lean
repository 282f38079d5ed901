/- ClefBest: for every list of clefs (cut to 9) and every list of pitches (cut to 20), Best answers as the reference: the first clef of fewest ledger lines, or the first error; the arguments read as before; the tables that the row lists are tied to the program text; no further condition. -/
import Derived.Test.YtnakfeamimeioaaDoorKnown
import Derived.Test.YtnakfeamimeioaaDoorB4
namespace Go.Proofs.YtnakfeamimeioaaDoor
open Go.RowKit Go.ChangeShapes Go.WideShapes
attribute [local go_sem] World.cell?_alloc_some
def bV (cs : List Int) (l : List Pt) : Int := if bkE cs l = 0 then bst (fun c => lnS c l) cs else 0
theorem cBest_any {a b : Option Addr} {cs : List Int} {l : List Pt} {c1 c2 n m : Nat} (w : World) (hn : cs.length = n) (hm : l.length = m) (hl : n ≤ 9) (hl2 : m ≤ 20) (h1 : IntsAt w a cs) (h2 : PitsAt w b l) (hT : Tab w) :
    Calls Tryd.prog 27 #[.slice a n c1, .slice b m c2] w fun e w' => e = .returned (.tuple #[.int .i64 (bV cs l), .int .i64 (bkE cs l)]) ∧ G w w' := by
  subst hn hm
  unfold bV
  by_cases h : bkE cs l = 0
  · rw [if_pos h]
    have hk : cs ≠ [] ∧ (∀ c ∈ cs, Cf c) ∧ ∀ p ∈ l, OkP p := by
      unfold bkE at h
      by_cases h0 : cs = []
      · rw [if_pos h0] at h; cases h
      · rw [if_neg h0] at h
        by_cases h1 : ∀ c ∈ cs, Cf c
        · rw [if_pos h1] at h
          by_cases h2 : ∀ p ∈ l, OkP p
          · exact ⟨h0, h1, h2⟩
          · rw [if_neg h2] at h; cases h
        · rw [if_neg h1] at h; cases h
    rw [h]
    exact cBest_ok a b cs l c1 c2 w hl hl2 h1 h2 hT hk.1 hk.2.1 hk.2.2
  · rw [if_neg h]
    exact cBest_bad a b cs l c1 c2 w hl hl2 h1 h2 hT h
theorem rBest_any2 {a b : Option Addr} {cs : List Int} {l : List Pt} {c1 c2 n m : Nat} (w : World) (hn : cs.length = n) (hm : l.length = m) (hl : n ≤ 9) (hl2 : m ≤ 20) (h1 : IntsAt w a cs) (h2 : PitsAt w b l) :
    Calls Tryd.prog 28 #[.slice a n c1, .slice b m c2] w fun e w' => e = .returned (.tuple #[.int .i64 (bV cs l), .int .i64 (bkE cs l)]) ∧ G w w' := by
  subst hn hm
  exact rBest_any a b cs l c1 c2 w hl hl2 h1 h2

set_option maxRecDepth 100000 in
set_option maxHeartbeats 6400000 in
theorem best_walk (a : Option Addr) (cs : List Int) (c1 : Nat) (b : Option Addr) (l : List Pt) (c2 : Nat) (w : World) (hc1 : cs.length ≤ c1) (hm1 : c1 ≤ maxLen) (h1 : IntsAt w a cs) (_ : a = none → c1 = 0) (hc2 : l.length ≤ c2) (hm2 : c2 ≤ maxLen) (h2 : PitsAt w b l) (_ : b = none → c2 = 0) (hT : Tab w) :
    Calls Tryd.prog 10 #[.slice a cs.length c1, .slice b l.length c2] w fun e w' => e = .returned (.bool true) ∧ G w w' := by
  have HT := Lib.hid hT
  have H1 := Lib.hid (h1.take 9)
  have H2 := Lib.hid (h2.take 20)
  have HL1 := Lib.hid (show (cs.take 9).length = min 9 cs.length from List.length_take)
  have HL2 := Lib.hid (show (l.take 20).length = min 20 l.length from List.length_take)
  obtain ⟨V, hV⟩ : ∃ z : Int, Hid (z = bV (cs.take 9) (l.take 20)) := ⟨_, rfl⟩
  obtain ⟨E, hE⟩ : ∃ z : Int, Hid (z = bkE (cs.take 9) (l.take 20)) := ⟨_, rfl⟩
  unfold maxLen at hm1 hm2
  clear hT h1 h2
  generalize cs.length = n at *
  generalize l.length = m at *
  by_cases k1 : n ≤ 9
  · by_cases k2 : m ≤ 20
    · have hn : (cs.take 9).length = n := by have := HL1.out; omega
      have hm : (l.take 20).length = m := by have := HL2.out; omega
      go_enter Tryd.func10, Tryd.ntmps10
      go_wp2_with fail
      go_big_region
      all_goals
        go_wp2_with fail
        refine (cBest_any _ hn hm (by omega) (by omega) (H1.out.later (by (repeat' (first | (with_reducible exact G.refl _) | (with_reducible assumption) | (with_reducible refine G.drewN ?_ _) | (with_reducible refine G.drew ?_) | (with_reducible refine G.alloc ?_ _) | (with_reducible refine G.setCell ?_ (by first | (with_reducible exact Nat.le_refl _) | (simp; done) | (simp; omega) | omega) _) | (with_reducible refine G.trans ?_ (by assumption)))))) (H2.out.later (by (repeat' (first | (with_reducible exact G.refl _) | (with_reducible assumption) | (with_reducible refine G.drewN ?_ _) | (with_reducible refine G.drew ?_) | (with_reducible refine G.alloc ?_ _) | (with_reducible refine G.setCell ?_ (by first | (with_reducible exact Nat.le_refl _) | (simp; done) | (simp; omega) | omega) _) | (with_reducible refine G.trans ?_ (by assumption)))))) (HT.out.later (by (repeat' (first | (with_reducible exact G.refl _) | (with_reducible assumption) | (with_reducible refine G.drewN ?_ _) | (with_reducible refine G.drew ?_) | (with_reducible refine G.alloc ?_ _) | (with_reducible refine G.setCell ?_ (by first | (with_reducible exact Nat.le_refl _) | (simp; done) | (simp; omega) | omega) _) | (with_reducible refine G.trans ?_ (by assumption))))))).mono ?_
        rintro e w2 ⟨rfl, hG2⟩
        rw [← hV.out, ← hE.out]
        have g2 : G w w2 := G.trans (by (repeat' (first | (with_reducible exact G.refl _) | (with_reducible refine G.drewN ?_ _) | (with_reducible refine G.drew ?_) | (with_reducible refine G.alloc ?_ _)))) hG2
        go_wp2_with fail
        refine (rBest_any2 _ hn hm (by omega) (by omega) (H1.out.later g2) (H2.out.later g2)).mono ?_
        rintro e w3 ⟨rfl, hG3⟩
        rw [← hV.out, ← hE.out]
        have g3 : G w w3 := g2.trans hG3
        go_wp2_with fail
        refine (known_any _ (HT.out.later g3)).mono ?_
        rintro e w4 ⟨rfl, hG4⟩
        go_wp2_with fail
        go_ret
        exact ⟨by first | rfl | simp, by first | exact g3.trans hG4 | (repeat' (first | (with_reducible exact G.refl _) | (with_reducible assumption) | (with_reducible refine G.drewN ?_ _) | (with_reducible refine G.drew ?_) | (with_reducible refine G.alloc ?_ _) | (with_reducible refine G.setCell ?_ (by first | (with_reducible exact Nat.le_refl _) | (simp; done) | (simp; omega) | omega) _) | (with_reducible refine G.trans ?_ (by assumption))))⟩
    · have hn : (cs.take 9).length = n := by have := HL1.out; omega
      have hm : (l.take 20).length = 20 := by have := HL2.out; omega
      go_enter Tryd.func10, Tryd.ntmps10
      go_wp2_with fail
      go_big_region
      all_goals
        go_wp2_with fail
        refine (cBest_any _ hn hm (by omega) (by omega) (H1.out.later (by (repeat' (first | (with_reducible exact G.refl _) | (with_reducible assumption) | (with_reducible refine G.drewN ?_ _) | (with_reducible refine G.drew ?_) | (with_reducible refine G.alloc ?_ _) | (with_reducible refine G.setCell ?_ (by first | (with_reducible exact Nat.le_refl _) | (simp; done) | (simp; omega) | omega) _) | (with_reducible refine G.trans ?_ (by assumption)))))) (H2.out.later (by (repeat' (first | (with_reducible exact G.refl _) | (with_reducible assumption) | (with_reducible refine G.drewN ?_ _) | (with_reducible refine G.drew ?_) | (with_reducible refine G.alloc ?_ _) | (with_reducible refine G.setCell ?_ (by first | (with_reducible exact Nat.le_refl _) | (simp; done) | (simp; omega) | omega) _) | (with_reducible refine G.trans ?_ (by assumption)))))) (HT.out.later (by (repeat' (first | (with_reducible exact G.refl _) | (with_reducible assumption) | (with_reducible refine G.drewN ?_ _) | (with_reducible refine G.drew ?_) | (with_reducible refine G.alloc ?_ _) | (with_reducible refine G.setCell ?_ (by first | (with_reducible exact Nat.le_refl _) | (simp; done) | (simp; omega) | omega) _) | (with_reducible refine G.trans ?_ (by assumption))))))).mono ?_
        rintro e w2 ⟨rfl, hG2⟩
        rw [← hV.out, ← hE.out]
        have g2 : G w w2 := G.trans (by (repeat' (first | (with_reducible exact G.refl _) | (with_reducible refine G.drewN ?_ _) | (with_reducible refine G.drew ?_) | (with_reducible refine G.alloc ?_ _)))) hG2
        go_wp2_with fail
        refine (rBest_any2 _ hn hm (by omega) (by omega) (H1.out.later g2) (H2.out.later g2)).mono ?_
        rintro e w3 ⟨rfl, hG3⟩
        rw [← hV.out, ← hE.out]
        have g3 : G w w3 := g2.trans hG3
        go_wp2_with fail
        refine (known_any _ (HT.out.later g3)).mono ?_
        rintro e w4 ⟨rfl, hG4⟩
        go_wp2_with fail
        go_ret
        exact ⟨by first | rfl | simp, by first | exact g3.trans hG4 | (repeat' (first | (with_reducible exact G.refl _) | (with_reducible assumption) | (with_reducible refine G.drewN ?_ _) | (with_reducible refine G.drew ?_) | (with_reducible refine G.alloc ?_ _) | (with_reducible refine G.setCell ?_ (by first | (with_reducible exact Nat.le_refl _) | (simp; done) | (simp; omega) | omega) _) | (with_reducible refine G.trans ?_ (by assumption))))⟩
  · by_cases k2 : m ≤ 20
    · have hn : (cs.take 9).length = 9 := by have := HL1.out; omega
      have hm : (l.take 20).length = m := by have := HL2.out; omega
      go_enter Tryd.func10, Tryd.ntmps10
      go_wp2_with fail
      go_big_region
      all_goals
        go_wp2_with fail
        refine (cBest_any _ hn hm (by omega) (by omega) (H1.out.later (by (repeat' (first | (with_reducible exact G.refl _) | (with_reducible assumption) | (with_reducible refine G.drewN ?_ _) | (with_reducible refine G.drew ?_) | (with_reducible refine G.alloc ?_ _) | (with_reducible refine G.setCell ?_ (by first | (with_reducible exact Nat.le_refl _) | (simp; done) | (simp; omega) | omega) _) | (with_reducible refine G.trans ?_ (by assumption)))))) (H2.out.later (by (repeat' (first | (with_reducible exact G.refl _) | (with_reducible assumption) | (with_reducible refine G.drewN ?_ _) | (with_reducible refine G.drew ?_) | (with_reducible refine G.alloc ?_ _) | (with_reducible refine G.setCell ?_ (by first | (with_reducible exact Nat.le_refl _) | (simp; done) | (simp; omega) | omega) _) | (with_reducible refine G.trans ?_ (by assumption)))))) (HT.out.later (by (repeat' (first | (with_reducible exact G.refl _) | (with_reducible assumption) | (with_reducible refine G.drewN ?_ _) | (with_reducible refine G.drew ?_) | (with_reducible refine G.alloc ?_ _) | (with_reducible refine G.setCell ?_ (by first | (with_reducible exact Nat.le_refl _) | (simp; done) | (simp; omega) | omega) _) | (with_reducible refine G.trans ?_ (by assumption))))))).mono ?_
        rintro e w2 ⟨rfl, hG2⟩
        rw [← hV.out, ← hE.out]
        have g2 : G w w2 := G.trans (by (repeat' (first | (with_reducible exact G.refl _) | (with_reducible refine G.drewN ?_ _) | (with_reducible refine G.drew ?_) | (with_reducible refine G.alloc ?_ _)))) hG2
        go_wp2_with fail
        refine (rBest_any2 _ hn hm (by omega) (by omega) (H1.out.later g2) (H2.out.later g2)).mono ?_
        rintro e w3 ⟨rfl, hG3⟩
        rw [← hV.out, ← hE.out]
        have g3 : G w w3 := g2.trans hG3
        go_wp2_with fail
        refine (known_any _ (HT.out.later g3)).mono ?_
        rintro e w4 ⟨rfl, hG4⟩
        go_wp2_with fail
        go_ret
        exact ⟨by first | rfl | simp, by first | exact g3.trans hG4 | (repeat' (first | (with_reducible exact G.refl _) | (with_reducible assumption) | (with_reducible refine G.drewN ?_ _) | (with_reducible refine G.drew ?_) | (with_reducible refine G.alloc ?_ _) | (with_reducible refine G.setCell ?_ (by first | (with_reducible exact Nat.le_refl _) | (simp; done) | (simp; omega) | omega) _) | (with_reducible refine G.trans ?_ (by assumption))))⟩
    · have hn : (cs.take 9).length = 9 := by have := HL1.out; omega
      have hm : (l.take 20).length = 20 := by have := HL2.out; omega
      go_enter Tryd.func10, Tryd.ntmps10
      go_wp2_with fail
      go_big_region
      all_goals
        go_wp2_with fail
        refine (cBest_any _ hn hm (by omega) (by omega) (H1.out.later (by (repeat' (first | (with_reducible exact G.refl _) | (with_reducible assumption) | (with_reducible refine G.drewN ?_ _) | (with_reducible refine G.drew ?_) | (with_reducible refine G.alloc ?_ _) | (with_reducible refine G.setCell ?_ (by first | (with_reducible exact Nat.le_refl _) | (simp; done) | (simp; omega) | omega) _) | (with_reducible refine G.trans ?_ (by assumption)))))) (H2.out.later (by (repeat' (first | (with_reducible exact G.refl _) | (with_reducible assumption) | (with_reducible refine G.drewN ?_ _) | (with_reducible refine G.drew ?_) | (with_reducible refine G.alloc ?_ _) | (with_reducible refine G.setCell ?_ (by first | (with_reducible exact Nat.le_refl _) | (simp; done) | (simp; omega) | omega) _) | (with_reducible refine G.trans ?_ (by assumption)))))) (HT.out.later (by (repeat' (first | (with_reducible exact G.refl _) | (with_reducible assumption) | (with_reducible refine G.drewN ?_ _) | (with_reducible refine G.drew ?_) | (with_reducible refine G.alloc ?_ _) | (with_reducible refine G.setCell ?_ (by first | (with_reducible exact Nat.le_refl _) | (simp; done) | (simp; omega) | omega) _) | (with_reducible refine G.trans ?_ (by assumption))))))).mono ?_
        rintro e w2 ⟨rfl, hG2⟩
        rw [← hV.out, ← hE.out]
        have g2 : G w w2 := G.trans (by (repeat' (first | (with_reducible exact G.refl _) | (with_reducible refine G.drewN ?_ _) | (with_reducible refine G.drew ?_) | (with_reducible refine G.alloc ?_ _)))) hG2
        go_wp2_with fail
        refine (rBest_any2 _ hn hm (by omega) (by omega) (H1.out.later g2) (H2.out.later g2)).mono ?_
        rintro e w3 ⟨rfl, hG3⟩
        rw [← hV.out, ← hE.out]
        have g3 : G w w3 := g2.trans hG3
        go_wp2_with fail
        refine (known_any _ (HT.out.later g3)).mono ?_
        rintro e w4 ⟨rfl, hG4⟩
        go_wp2_with fail
        go_ret
        exact ⟨by first | rfl | simp, by first | exact g3.trans hG4 | (repeat' (first | (with_reducible exact G.refl _) | (with_reducible assumption) | (with_reducible refine G.drewN ?_ _) | (with_reducible refine G.drew ?_) | (with_reducible refine G.alloc ?_ _) | (with_reducible refine G.setCell ?_ (by first | (with_reducible exact Nat.le_refl _) | (simp; done) | (simp; omega) | omega) _) | (with_reducible refine G.trans ?_ (by assumption))))⟩

/-! ### the row and the card -/
open Go.ChangeShapes Go.WideShapes Go.ChangeAt Go.RowKit
set_option maxRecDepth 100000 in
theorem clefBest_lifted (os : Os) (started : os.Started) (H : Type) (enc : TypeId × Value → H) :
    ReturnsInHanded {} Tryd.checked os 10 .any (fun w args => (Rows.clefBestSpec.pre enc Tryd.prog Tryd.f10 [] false w args ∧ laidMetH Tryd.prog laidL w) ∧ sizedMet enc Tryd.prog Tryd.f10 (OpenSpec.ofChange Rows.clefBestSpec) false w args)
      (Rows.clefBestSpec.post enc Tryd.prog Tryd.f10 false true false false) := by
  refine returnsInHanded_of_change_and (C := Tryd.checked) (X := fun w _ => laidMetH Tryd.prog laidL w) (fun _ _ _ hh h => h.of_heap hh) own started (by kernel_rfl) Tryd.func10
    (ChangeSpec.witness_shaped (enc := enc) (C := Tryd.checked) (os := os) (X := fun w _ => laidMetH Tryd.prog laidL w) false (World.laidAll Tryd.prog os laidL) #[.slice none 0 0, .slice none 0 0] 8 (World.laidAll_os _ _ _) (shapedL os) (by kernel_rfl) (by kernel_rfl) (by kernel_rfl) (laid_met os _)) ?_
  intro W base args ds gs before hval0 hW _ _ hL _
  have hval : ∀ (j : Nat) t v, Tryd.f10.params[j]? = some t → args[j]? = some v → Value.okWide Tryd.prog W .any base t v := hval0
  have hW' := hW
  obtain ⟨p, q, hA0, hV, rfl, hfz, hnd⟩ := hW
  have hA : DataW.TrodAll enc Tryd.prog W 0 (fun _ => true) true Tryd.f10.params.toList args.toList ds p := hA0
  rw [Tryd.params10] at hA hval
  obtain ⟨v0, vs0, d0, ds0, p0, q0, hargs, rfl, rfl, h0, r0⟩ := trodAll_cons hA
  obtain ⟨v1, vs1, d1, ds1, p1, q1, rfl, rfl, rfl, h1, r1⟩ := trodAll_cons r0
  obtain ⟨rfl, rfl, rfl⟩ := trodAll_nil r1
  obtain rfl : args = #[v0, v1] := by cases args; simp_all
  obtain ⟨rfl, rfl⟩ := trodVars_none hV
  have keep0 := h0
  obtain ⟨a0, cap0, l0, rfl, lc0, mc0, la0, _, lz0⟩ := open_intsArg (hval 0 41 v0 rfl rfl) h0
  have keep1 := h1
  obtain ⟨a1, cap1, l1, rfl, lc1, mc1, la1, _, lz1⟩ := open_pitsArg (hval 1 49 v1 rfl rfl) h1
  clear hA0 hval0
  simp only [List.append_nil] at hW'
  have hlt0 : ∀ x ∈ p0, x.block < W.heap.size := fun x hx => by have := hW'.lt x (by simp [hx]); simpa using this
  have hlt1 : ∀ x ∈ p1, x.block < W.heap.size := fun x hx => by have := hW'.lt x (by simp [hx]); simpa using this
  refine (best_walk a0 l0 cap0 a1 l1 cap1 W lc0 mc0 la0 lz0 lc1 mc1 la1 lz1  (tab_of_laid hL)).mono fun e W' ⟨he, hg⟩ => ?_
  subst he
  exact ⟨_, rfl, _, _, _, [], (p0 ++ (p1 ++ [])), [], hW', (trodAll_cons_mk (shut_bool Tryd.underlying4 _) trodAll_mk0), (trodAll_cons_mk (Below.trod (by kernel_rfl) (by kernel_rfl) (of_decide_eq_true (by kernel_rfl)) keep0 hg hlt0) (trodAll_cons_mk (Below.trod (by kernel_rfl) (by kernel_rfl) (of_decide_eq_true (by kernel_rfl)) keep1 hg hlt1) trodAll_mk0)), rfl, Below.frame hg _, fun h => by cases h⟩

theorem clefBest_holds : Rows.ClefBestSaid :=
  OpenClaim.holds_of_wide 10 Tryd.f10 rfl rfl rfl rfl rfl rfl rfl ⟨rfl, rfl, rfl, rfl, rfl⟩ rfl rfl rfl rfl rfl (by kernel_rfl) Tryd.func10 (by kernel_rfl)
    (of_decide_eq_true (by kernel_rfl)) (by unfold Func.isWrapper; first | (rw [if_pos (by decide +kernel)]; kernel_rfl) | (rw [if_neg (by decide +kernel)]; exact ⟨rfl, rfl⟩))
    (fun os started H enc _ => clefBest_lifted os started H enc)

theorem clefBest_card : Rows.ClefBestCardSaid :=
  Claim7.holds_tied_plain_at .later [] [.data, .data, .data] true (true, "ae3d3630bcff25fd33e59354a4ec782dc285709024c716b55dd2ba349c01efa0") false
    clefBest_holds (fun _ h => by cases h) (by kernel_rfl) (fun _ h => by cases h) clefBest_row_tie rfl ⟨rfl, rfl⟩ (by kernel_rfl) rfl
    (fun f fn hf hfn => by
      obtain rfl : f = 10 := Option.some.inj ((show Tryd.prog.funcNamed "hemiola/hemiolalaw08.ClefBest" = some 10 by kernel_rfl).symm.trans hf) |>.symm
      obtain rfl : fn = Tryd.f10 := (Option.some.inj (Tryd.func10.symm.trans hfn)).symm
      exact ⟨by kernel_rfl, fun j t ht => by
        rw [Tryd.params10] at ht
        have hm : t ∈ [41, 49] := by simpa using Array.mem_of_getElem? ht
        have hall : ([41, 49].all fun u => !Tryd.prog.wantsStandIn u) = true := by kernel_rfl
        exact (show Tryd.prog.wantsStandIn t = false by simpa using List.all_eq_true.1 hall t hm)⟩)
    (by kernel_rfl)
#print axioms clefBest_card
end Go.Proofs.YtnakfeamimeioaaDoor
