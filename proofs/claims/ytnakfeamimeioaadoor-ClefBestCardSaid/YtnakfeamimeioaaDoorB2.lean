import Derived.Test.YtnakfeamimeioaaDoorB1
/-! Best: the ledger lines of many pitches. -/
namespace Go.Proofs.YtnakfeamimeioaaDoor
open Go.RowKit
attribute [local go_sem] World.cell?_alloc_some
theorem Lies.lenS {w : World} {v : Value} {l : List Int} (h : Lies w v l) : ∃ p cap, v = .slice p l.length cap := by
  rcases h with ⟨rfl, rfl⟩ | ⟨g, cap, rfl, _⟩
  · exact ⟨_, _, rfl⟩
  · exact ⟨_, _, rfl⟩
def lgN (c : Int) (p : Pt) : Int := ((lgL (poV c p.1 p.2.1 p.2.2)).length : Int)
def lnS (c : Int) (l : List Pt) : Int := (l.map (lgN c)).sum
theorem lgN_bd (c : Int) (p : Pt) : 0 ≤ lgN c p ∧ lgN c p ≤ 100 := by
  have := lgL_len (poV c p.1 p.2.1 p.2.2)
  unfold lgN
  omega
theorem lnS_bd (c : Int) (l : List Pt) : 0 ≤ lnS c l ∧ lnS c l ≤ 100 * l.length := by
  induction l with
  | nil => simp [lnS]
  | cons p l ih =>
    have := lgN_bd c p
    have e : lnS c (p :: l) = lgN c p + lnS c l := by simp [lnS]
    rw [e, List.length_cons]
    omega
theorem lnS_next {c : Int} {l : List Pt} {i : Nat} {p : Pt} (h : l[i]? = some p) : lnS c (l.take (i + 1)) = lnS c (l.take i) + lgN c p := by
  unfold lnS
  rw [List.take_add_one, h]
  simp
set_option maxRecDepth 100000 in
set_option maxHeartbeats 3200000 in
theorem lines_any (c : Int) (b : Option Addr) (l : List Pt) (c2 : Nat) (w : World) (hl2 : l.length ≤ 20) (h2 : PitsAt w b l) (hT : Tab w) :
    Calls Tryd.prog 39 #[.int .i64 c, .slice b l.length c2] w fun e w' => e = .returned (.int .i64 (lnS c l)) ∧ G w w' := by
  have HT := Lib.hid hT
  have H2 := Lib.hid h2
  have HL2 := Lib.hid hl2
  clear hT h2
  obtain ⟨R, hR⟩ : ∃ z : Int, Hid (z = lnS c l) := ⟨_, rfl⟩
  rw [← hR.out]
  have hk2 : ((l.length : Int) ≤ 20) := by omega
  go_enter Tryd.func39, Tryd.ntmps39
  go_wp2_with fail
  go_loopg [5, 12] l.length (fun k y x wr => ∃ (i : Nat) (N : Int), y = .int .i64 N ∧ x = .int .i64 i ∧ k = l.length - i ∧ i ≤ l.length ∧ Hid (N = lnS c (l.take i)) ∧ G w wr)
  case atStart => exact ⟨0, 0, rfl, rfl, by omega, by omega, Lib.hid (by simp [lnS]), by (repeat' (first | (with_reducible exact G.refl _) | (with_reducible assumption) | (with_reducible refine G.drewN ?_ _) | (with_reducible refine G.drew ?_) | (with_reducible refine G.alloc ?_ _) | (with_reducible refine G.setCell ?_ (by first | (with_reducible exact Nat.le_refl _) | (simp; done) | (simp; omega) | omega) _) | (with_reducible refine G.trans ?_ (by assumption))))⟩
  case round =>
    obtain ⟨i, N, rfl, rfl, hg2, hi2, hA2, gr2⟩ := hrel
    have HG2 := Lib.hid hg2
    clear hg2
    have nb := lnS_bd c (l.take i)
    rw [← hA2.out, List.length_take] at nb
    by_cases hin : i < l.length
    · obtain ⟨⟨s, t, u⟩, hp⟩ : ∃ c, l[i]? = some c := ⟨l[i], List.getElem?_eq_getElem hin⟩
      rcases H2.out with hz | ⟨b2', o2, rfl, fp⟩
      · rw [hz] at hin; exact absurd hin (by simp)
      obtain ⟨x0', x1', x2'⟩ := fp i _ hp
      have x0 := gr2.at x0'
      have x1 := gr2.at x1'
      have x2 := gr2.at x2'
      have HCI := Lib.hid hp
      have b1 : (0 : Int) ≤ (i : Int) := by omega
      have b2 : (i : Int) < (l.length : Int) := by omega
      have q1 := IntWalk.i64_in ((i : Int) + 1) (by omega)
      obtain ⟨P, hP⟩ : ∃ z : Int, Hid (z = poV c s t u) := ⟨_, rfl⟩
      obtain ⟨M, hM⟩ : ∃ z : Nat, Hid (z = (lgL P).length) := ⟨_, rfl⟩
      have hN2 := lnS_next (c := c) hp
      have hMb : M ≤ 100 := by rw [hM.out]; exact lgL_len P
      have HN2 := Lib.hid (show N + (M : Int) = lnS c (l.take (i + 1)) by
        rw [hN2, hA2.out, hM.out, hP.out]; rfl)
      have q2 := IntWalk.i64_in (N + (M : Int)) (by omega)
      clear hp fp x0' x1' x2' hN2
      go_wp2_with fail
      refine (cPosition_any c s t u _ (HT.out.later (by (repeat' (first | (with_reducible exact G.refl _) | (with_reducible assumption) | (with_reducible refine G.drewN ?_ _) | (with_reducible refine G.drew ?_) | (with_reducible refine G.alloc ?_ _) | (with_reducible refine G.setCell ?_ (by first | (with_reducible exact Nat.le_refl _) | (simp; done) | (simp; omega) | omega) _) | (with_reducible refine G.trans ?_ (by assumption))))))).mono ?_
      rintro e w2 ⟨rfl, hG2⟩
      rw [← hP.out]
      go_wp2_with fail
      refine (cLedger_any P _).mono ?_
      rintro e w3 ⟨v, rfl, hA⟩
      obtain ⟨p, cap, rfl⟩ := hA.lies.lenS
      have hG3 := hA.2
      rw [← hM.out]
      clear hA
      go_wp2_with fail
      go_roundg (l.length - (i + 1))
      case measure => have := HG2.out; omega
      case rel => exact ⟨i + 1, N + (M : Int), rfl, by first | rfl | simp, rfl, by omega, Lib.hid HN2.out, by (repeat' (first | (with_reducible exact G.refl _) | (with_reducible assumption) | (with_reducible refine G.drewN ?_ _) | (with_reducible refine G.drew ?_) | (with_reducible refine G.alloc ?_ _) | (with_reducible refine G.setCell ?_ (by first | (with_reducible exact Nat.le_refl _) | (simp; done) | (simp; omega) | omega) _) | (with_reducible refine G.trans ?_ (by assumption))))⟩
    · have hii : i = l.length := by omega
      subst hii
      have HR := Lib.hid (show R = N by rw [hR.out, hA2.out, List.take_length])
      go_wp2_with fail
      go_ret
      exact ⟨by rw [HR.out]; rfl, by (repeat' (first | (with_reducible exact G.refl _) | (with_reducible assumption) | (with_reducible refine G.drewN ?_ _) | (with_reducible refine G.drew ?_) | (with_reducible refine G.alloc ?_ _) | (with_reducible refine G.setCell ?_ (by first | (with_reducible exact Nat.le_refl _) | (simp; done) | (simp; omega) | omega) _) | (with_reducible refine G.trans ?_ (by assumption))))⟩
set_option maxRecDepth 100000 in
set_option maxHeartbeats 3200000 in
theorem rLines_any (c : Int) (b : Option Addr) (l : List Pt) (c2 : Nat) (w : World) (hl2 : l.length ≤ 20) (h2 : PitsAt w b l) (hc : Cf c) (hok : ∀ p ∈ l, OkP p) :
    Calls Tryd.prog 40 #[.int .i64 c, .slice b l.length c2] w fun e w' => e = .returned (.int .i64 (lnS c l)) ∧ G w w' := by
  have HC := Lib.hid hc
  have HOK := Lib.hid hok
  have H2 := Lib.hid h2
  have HL2 := Lib.hid hl2
  clear hc h2 hok
  obtain ⟨R, hR⟩ : ∃ z : Int, Hid (z = lnS c l) := ⟨_, rfl⟩
  rw [← hR.out]
  have hk2 : ((l.length : Int) ≤ 20) := by omega
  go_enter Tryd.func40, Tryd.ntmps40
  go_wp2_with fail
  go_loopg [5, 6] l.length (fun k y x wr => ∃ (i : Nat) (N : Int), y = .int .i64 N ∧ x = .int .i64 i ∧ k = l.length - i ∧ i ≤ l.length ∧ Hid (N = lnS c (l.take i)) ∧ G w wr)
  case atStart => exact ⟨0, 0, rfl, rfl, by omega, by omega, Lib.hid (by simp [lnS]), by (repeat' (first | (with_reducible exact G.refl _) | (with_reducible assumption) | (with_reducible refine G.drewN ?_ _) | (with_reducible refine G.drew ?_) | (with_reducible refine G.alloc ?_ _) | (with_reducible refine G.setCell ?_ (by first | (with_reducible exact Nat.le_refl _) | (simp; done) | (simp; omega) | omega) _) | (with_reducible refine G.trans ?_ (by assumption))))⟩
  case round =>
    obtain ⟨i, N, rfl, rfl, hg2, hi2, hA2, gr2⟩ := hrel
    have HG2 := Lib.hid hg2
    clear hg2
    have nb := lnS_bd c (l.take i)
    rw [← hA2.out, List.length_take] at nb
    by_cases hin : i < l.length
    · obtain ⟨⟨s, t, u⟩, hp⟩ : ∃ c, l[i]? = some c := ⟨l[i], List.getElem?_eq_getElem hin⟩
      have hOk : Ok s t u := HOK.out _ (List.mem_of_getElem? hp)
      have HO := Lib.hid hOk.1
      rcases H2.out with hz | ⟨b2', o2, rfl, fp⟩
      · rw [hz] at hin; exact absurd hin (by simp)
      obtain ⟨x0', x1', x2'⟩ := fp i _ hp
      have x0 := gr2.at x0'
      have x1 := gr2.at x1'
      have x2 := gr2.at x2'
      have HCI := Lib.hid hp
      have b1 : (0 : Int) ≤ (i : Int) := by omega
      have b2 : (i : Int) < (l.length : Int) := by omega
      have q1 := IntWalk.i64_in ((i : Int) + 1) (by omega)
      obtain ⟨P, hP⟩ : ∃ z : Int, Hid (z = 7 * u + s - mid c) := ⟨_, rfl⟩
      have hP2 : poV c s t u = P := by rw [hP.out]; exact if_pos ⟨HC.out, hOk⟩
      obtain ⟨M, hM⟩ : ∃ z : Nat, Hid (z = (lgL P).length) := ⟨_, rfl⟩
      have hN2 := lnS_next (c := c) hp
      have hMb : M ≤ 100 := by rw [hM.out]; exact lgL_len P
      have HN2 := Lib.hid (show N + (M : Int) = lnS c (l.take (i + 1)) by
        rw [hN2, hA2.out, hM.out, ← hP2]; rfl)
      have q2 := IntWalk.i64_in (N + (M : Int)) (by omega)
      clear hp fp x0' x1' x2' hN2 hOk hP2
      go_wp2_with fail
      refine (rPosition_any c s t u _ HC.out HO.out).mono ?_
      rintro e w2 ⟨rfl, hG2⟩
      rw [← hP.out]
      go_wp2_with fail
      refine (rLedger_any P _).mono ?_
      rintro e w3 ⟨v, rfl, hA⟩
      obtain ⟨p, cap, rfl⟩ := hA.lies.lenS
      have hG3 := hA.2
      rw [← hM.out]
      clear hA
      go_wp2_with fail
      go_roundg (l.length - (i + 1))
      case measure => have := HG2.out; omega
      case rel => exact ⟨i + 1, N + (M : Int), rfl, by first | rfl | simp, rfl, by omega, Lib.hid HN2.out, by (repeat' (first | (with_reducible exact G.refl _) | (with_reducible assumption) | (with_reducible refine G.drewN ?_ _) | (with_reducible refine G.drew ?_) | (with_reducible refine G.alloc ?_ _) | (with_reducible refine G.setCell ?_ (by first | (with_reducible exact Nat.le_refl _) | (simp; done) | (simp; omega) | omega) _) | (with_reducible refine G.trans ?_ (by assumption))))⟩
    · have hii : i = l.length := by omega
      subst hii
      have HR := Lib.hid (show R = N by rw [hR.out, hA2.out, List.take_length])
      go_wp2_with fail
      go_ret
      exact ⟨by rw [HR.out]; rfl, by (repeat' (first | (with_reducible exact G.refl _) | (with_reducible assumption) | (with_reducible refine G.drewN ?_ _) | (with_reducible refine G.drew ?_) | (with_reducible refine G.alloc ?_ _) | (with_reducible refine G.setCell ?_ (by first | (with_reducible exact Nat.le_refl _) | (simp; done) | (simp; omega) | omega) _) | (with_reducible refine G.trans ?_ (by assumption))))⟩
end Go.Proofs.YtnakfeamimeioaaDoor
