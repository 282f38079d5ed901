/- ClefMirrors: for every position of at most 196, the ledger lines below the staff mirror those above it, and the position two steps on has one more; the arguments read as before; the tables that the row lists are tied to the program text; no further condition. -/
import Derived.Test.YtnakfeamimeioaaDoorKnown
import Derived.Test.YtnakfeamimeioaaDoorLaid
import Derived.Test.YtnakfeamimeioaaDoorC8
import Derived.BigRegion
namespace Go.Proofs.YtnakfeamimeioaaDoor
open Go.RowKit
attribute [local go_sem] World.cell?_alloc_some

theorem cLedgerM_any (p : Int) (w : World) : Calls Tryd.prog 22 #[.int .i64 p] w fun e w' => ∃ v, e = .returned v ∧ At w w' v (lgL p) := by
  by_cases h : p < -200 ∨ 200 < p
  · rw [show lgL p = [] from if_pos h]
    refine (Ledger_out p w h).mono ?_
    rintro e w' ⟨rfl, rfl⟩
    exact ⟨_, rfl, At.nil w⟩
  · exact Ledger_in p w (by omega) (by omega)
theorem Lies.form {w : World} {v : Value} {l : List Int} (h : Lies w v l) : ∃ p cap, v = .slice p l.length cap ∧ ((p = none ∧ l = []) ∨ ∃ g, p = some ⟨g, 0, none⟩ ∧ l.length ≤ cap ∧ ∀ (i : Nat) (x : Int), l[i]? = some x → w.cell? ⟨g, i, none⟩ = some (.int .i64 x)) := by
  rcases h with ⟨rfl, rfl⟩ | ⟨g, cap, rfl, h1, _, h3⟩
  · exact ⟨_, _, rfl, .inl ⟨rfl, rfl⟩⟩
  · exact ⟨_, _, rfl, .inr ⟨g, rfl, h1, h3⟩⟩
theorem up_get {k i : Nat} (h : i < k) : (up k)[i]? = some (6 + 2 * (i : Int)) := by simp [up, h]
theorem dn_get {k i : Nat} (h : i < k) : (dn k)[i]? = some (-6 - 2 * (i : Int)) := by simp [dn, h]

set_option maxRecDepth 100000 in
set_option maxHeartbeats 6400000 in
theorem mirrors_walk (p : Int) (w : World) (p0 : 0 ≤ p) (p1 : p ≤ 255) (hT : Tab w) :
    Calls Tryd.prog 7 #[.int .u8 p] w fun e w' => e = .returned (.bool true) ∧ G w w' := by
  have HT := Lib.hid hT
  obtain ⟨n, hn⟩ : ∃ z : Int, Hid (z = p % 197) := ⟨_, rfl⟩
  have nb : 0 ≤ n ∧ n ≤ 196 := by rw [hn.out]; omega
  have q1 : p.tmod 197 = n := by rw [hn.out]; exact Int.tmod_eq_emod_of_nonneg p0
  have q2 : p % 197 = n := hn.out.symm
  obtain ⟨K, hK⟩ : ∃ z : Nat, Hid (z = nU n) := ⟨_, rfl⟩
  obtain ⟨M, hM⟩ : ∃ z : Nat, Hid (z = nU (n + 2)) := ⟨_, rfl⟩
  have HA := Lib.hid (show lgL n = up K by
    rw [lgL_in (by omega) (by omega), hK.out, show nD n = 0 by unfold nD; omega]; simp [dn])
  have HB := Lib.hid (show lgL (-n) = dn K by
    rw [lgL_in (by omega) (by omega), hK.out, show nU (-n) = 0 by unfold nU; omega, show nD (-n) = nU n by unfold nD nU; omega]; simp [up])
  have HC := Lib.hid (show lgL (n + 2) = up M by
    rw [lgL_in (by omega) (by omega), hM.out, show nD (n + 2) = 0 by unfold nD; omega]; simp [dn])
  have hKM : (n < 4 ∧ K = 0 ∧ M = 0) ∨ (4 ≤ n ∧ M = K + 1) := by rw [hK.out, hM.out]; unfold nU; omega
  have HKB := Lib.hid (show K ≤ 100 by rw [hK.out]; unfold nU; omega)
  have q3 := IntWalk.i64_in (-n) (by omega)
  have q4 := IntWalk.i64_in (n + 2) (by omega)
  clear hT
  go_enter Tryd.func7, Tryd.ntmps7
  go_wp2_with fail
  refine (cLedgerM_any n _).mono ?_
  rintro e w1 ⟨va, rfl, hA1⟩
  rw [HA.out] at hA1
  have g1 := hA1.2
  have L1 := hA1.lies
  go_wp2_with fail
  refine (cLedgerM_any (-n) _).mono ?_
  rintro e w2 ⟨vb, rfl, hA2⟩
  rw [HB.out] at hA2
  have g2 := hA2.2
  have L2 := hA2.lies
  go_wp2_with fail
  refine (cLedgerM_any (n + 2) _).mono ?_
  rintro e w3 ⟨vc, rfl, hA3⟩
  rw [HC.out] at hA3
  have g3 := hA3.2
  have L3 := hA3.lies
  have gw3 : G w w3 := g1.trans (g2.trans g3)
  replace L1 := L1.later (g2.trans g3)
  replace L2 := L2.later g3
  clear hA1 hA2 hA3 g1 g2 g3 q1 q2
  obtain ⟨pa, ca, rfl, fa⟩ := L1.form
  obtain ⟨pb, cb, rfl, fb⟩ := L2.form
  obtain ⟨pc, cc, rfl, fc⟩ := L3.form
  rw [up_len, dn_len, up_len] at *
  have F1 := Lib.hid fa
  have F2 := Lib.hid fb
  have F3 := Lib.hid fc
  clear L1 L2 L3 fa fb fc
  go_wp2_with fail
  refine (known_any _ (HT.out.later gw3)).mono ?_
  rintro e w4 ⟨rfl, hG4⟩
  have gw4 := gw3.trans hG4
  have kb := HKB.out
  clear q3 q4
  by_cases hk : K = 0
  · subst hk
    go_wp2_with fail
    go_loopw [7] (fun x wr => x = .int .i64 0 ∧ wr = w4) (fun _ _ => 0)
    case atStart => exact ⟨rfl, rfl⟩
    case round =>
      obtain ⟨rfl, rfl⟩ := hrel
      rcases hKM with ⟨k1, _, rfl⟩ | ⟨k1, rfl⟩
      all_goals
        go_wp2_with fail
        go_ret
        exact ⟨by first | rfl | simp, gw4⟩
  · obtain ⟨k4, rfl⟩ : 4 ≤ n ∧ M = K + 1 := by omega
    have HKP := Lib.hid (show 0 < K by omega)
    rcases F1.out with ⟨_, hz⟩ | ⟨ga, rfl, hca, fa⟩
    · exact absurd (congrArg List.length hz) (by rw [up_len]; simp; omega)
    rcases F2.out with ⟨_, hz⟩ | ⟨gb, rfl, hcb, fb⟩
    · exact absurd (congrArg List.length hz) (by rw [dn_len]; simp; omega)
    rcases F3.out with ⟨_, hz⟩ | ⟨gc, rfl, hcc, fc⟩
    · exact absurd (congrArg List.length hz) (by rw [up_len]; simp)
    have FA := Lib.hid fa
    have FB := Lib.hid fb
    have FC := Lib.hid fc
    clear F1 F2 F3 fa fb fc hKM hk
    go_wp2_with fail
    go_loopg [7] K (fun k x wr => ∃ i : Nat, x = .int .i64 i ∧ k = K - i ∧ i ≤ K ∧ G w4 wr)
    case atStart => exact ⟨0, rfl, by omega, by omega, G.refl _⟩
    case round =>
      obtain ⟨i, rfl, hgk, i1, gr⟩ := hrel
      have HGK := Lib.hid hgk
      clear hgk
      by_cases hi : i < K
      · obtain ⟨x, hx⟩ : ∃ z : Int, Hid (z = 6 + 2 * (i : Int)) := ⟨_, rfl⟩
        have a0 := (hG4.trans gr).at (FA.out i _ (up_get hi))
        have b0 := (hG4.trans gr).at (FB.out i _ (dn_get hi))
        have c0 := (hG4.trans gr).at (FC.out i _ (up_get (show i < K + 1 by omega)))
        rw [← hx.out] at a0 c0
        rw [show -6 - 2 * (i : Int) = -x by rw [hx.out]; omega] at b0
        have xb : 6 ≤ x ∧ x ≤ 400 := by rw [hx.out]; omega
        have r1 := IntWalk.i64_in x (by omega)
        have r2 := IntWalk.i64_in (2 * (i : Int)) (by omega)
        have r3 : IntKind.i64.wrap (6 + 2 * (i : Int)) = x := by rw [← hx.out]; exact r1
        have r4 : IntKind.i64.wrap (- -x) = x := by rw [Int.neg_neg]; exact r1
        have r5 : ((x : Int) != x) = false := by simp
        have b1 : (0 : Int) ≤ (i : Int) := by omega
        have b2 : (i : Int) < (K : Int) := by omega
        have b3 : (i : Int) < (K : Int) + 1 := by omega
        have b4 : decide ((K : Int) + 1 ≤ (i : Int)) = false := decide_eq_false (by omega)
        have b5 : decide (K + 1 ≤ i) = false := decide_eq_false (by omega)
        have b6 : decide (K < i) = false := decide_eq_false (by omega)
        go_wp2_with fail
        go_big_region
        all_goals
          go_wp2_with fail
          go_roundg (K - (i + 1))
          case measure => have := HGK.out; omega
          case rel => exact ⟨i + 1, by go_num, rfl, by omega, by (repeat' (first | (with_reducible exact G.refl _) | (with_reducible assumption) | (with_reducible refine G.drewN ?_ _) | (with_reducible refine G.drew ?_) | (with_reducible refine G.alloc ?_ _) | (with_reducible refine G.setCell ?_ (by first | (with_reducible exact Nat.le_refl _) | (simp; done) | (simp; omega) | omega) _) | (with_reducible refine G.trans ?_ (by assumption))))⟩
      · obtain rfl : i = K := by omega
        have h4 : ¬ n < 4 := by omega
        go_wp2_with fail
        go_ret
        exact ⟨by first | rfl | simp, gw4.trans gr⟩

/-! ### the row and the card -/
open Go.ChangeShapes Go.WideShapes Go.ChangeAt Go.RowKit
set_option maxRecDepth 100000 in
theorem clefMirrors_lifted (os : Os) (started : os.Started) (H : Type) (enc : TypeId × Value → H) :
    ReturnsInHanded {} Tryd.checked os 7 .any (fun w args => (Rows.clefMirrorsSpec.pre enc Tryd.prog Tryd.f7 [] false w args ∧ laidMetH Tryd.prog laidL w) ∧ sizedMet enc Tryd.prog Tryd.f7 (OpenSpec.ofChange Rows.clefMirrorsSpec) false w args)
      (Rows.clefMirrorsSpec.post enc Tryd.prog Tryd.f7 false true false false) := by
  refine returnsInHanded_of_change_and (C := Tryd.checked) (X := fun w _ => laidMetH Tryd.prog laidL w) (fun _ _ _ hh h => h.of_heap hh) own started (by kernel_rfl) Tryd.func7
    (ChangeSpec.witness_shaped (enc := enc) (C := Tryd.checked) (os := os) (X := fun w _ => laidMetH Tryd.prog laidL w) false (World.laidAll Tryd.prog os laidL) #[.int .u8 0] 8 (World.laidAll_os _ _ _) (shapedL os) (by kernel_rfl) (by kernel_rfl) (by kernel_rfl) (laid_met os _)) ?_
  intro W base args ds gs before hval0 hW _ _ hL _
  have hval : ∀ (j : Nat) t v, Tryd.f7.params[j]? = some t → args[j]? = some v → Value.okWide Tryd.prog W .any base t v := hval0
  have hW' := hW
  obtain ⟨p, q, hA0, hV, rfl, hfz, hnd⟩ := hW
  have hA : DataW.TrodAll enc Tryd.prog W 0 (fun _ => true) true Tryd.f7.params.toList args.toList ds p := hA0
  rw [Tryd.params7] at hA hval
  obtain ⟨v0, vs0, d0, ds0, p0, q0, hargs, rfl, rfl, h0, r0⟩ := trodAll_cons hA
  obtain ⟨rfl, rfl, rfl⟩ := trodAll_nil r0
  obtain rfl : args = #[v0] := by cases args; simp_all
  obtain ⟨rfl, rfl⟩ := trodVars_none hV
  obtain ⟨a0, rfl, rfl, rfl, w0⟩ := open_int Tryd.underlying5 (hval 0 5 v0 rfl rfl) h0
  obtain ⟨bl0, bh0⟩ := bounds_u8 w0
  clear hA0 hval0
  simp only [List.append_nil] at hW'
  refine (mirrors_walk a0 W bl0 bh0  (tab_of_laid hL)).mono fun e W' ⟨he, hg⟩ => ?_
  subst he
  exact ⟨_, rfl, _, _, _, [], [], [], hW', (trodAll_cons_mk (shut_bool Tryd.underlying4 _) trodAll_mk0), (trodAll_cons_mk (shut_int Tryd.underlying5 w0) trodAll_mk0), rfl, Below.frame hg _, fun h => by cases h⟩

theorem clefMirrors_holds : Rows.ClefMirrorsSaid :=
  OpenClaim.holds_of_wide 7 Tryd.f7 rfl rfl rfl rfl rfl rfl rfl ⟨rfl, rfl, rfl, rfl, rfl⟩ rfl rfl rfl rfl rfl (by kernel_rfl) Tryd.func7 (by kernel_rfl)
    (of_decide_eq_true (by kernel_rfl)) (by unfold Func.isWrapper; first | (rw [if_pos (by decide +kernel)]; kernel_rfl) | (rw [if_neg (by decide +kernel)]; exact ⟨rfl, rfl⟩))
    (fun os started H enc _ => clefMirrors_lifted os started H enc)

theorem clefMirrors_card : Rows.ClefMirrorsCardSaid :=
  Claim7.holds_tied_plain_at .later [] [.data, .data, .data] true (true, "ae3d3630bcff25fd33e59354a4ec782dc285709024c716b55dd2ba349c01efa0") false
    clefMirrors_holds (fun _ h => by cases h) (by kernel_rfl) (fun _ h => by cases h) clefMirrors_row_tie rfl ⟨rfl, rfl⟩ (by kernel_rfl) rfl
    (fun f fn hf hfn => by
      obtain rfl : f = 7 := Option.some.inj ((show Tryd.prog.funcNamed "hemiola/hemiolalaw08.ClefMirrors" = some 7 by kernel_rfl).symm.trans hf) |>.symm
      obtain rfl : fn = Tryd.f7 := (Option.some.inj (Tryd.func7.symm.trans hfn)).symm
      exact ⟨by kernel_rfl, fun j t ht => by
        rw [Tryd.params7] at ht
        have hm : t ∈ [5] := by simpa using Array.mem_of_getElem? ht
        have hall : ([5].all fun u => !Tryd.prog.wantsStandIn u) = true := by kernel_rfl
        exact (show Tryd.prog.wantsStandIn t = false by simpa using List.all_eq_true.1 hall t hm)⟩)
    (by kernel_rfl)
#print axioms clefMirrors_card
end Go.Proofs.YtnakfeamimeioaaDoor
