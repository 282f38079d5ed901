import Derived.Test.YtnakfeamimeioaaDoorSl
import Derived.Test.YtnakfeamimeioaaDoorC9
/-! Best: the checks, the ledger lines of many pitches. -/
namespace Go.Proofs.YtnakfeamimeioaaDoor
open Go.RowKit
attribute [local go_sem] World.cell?_alloc_some
abbrev Pt := Int × Int × Int
def OkP (p : Pt) : Prop := Ok p.1 p.2.1 p.2.2
instance (p : Pt) : Decidable (OkP p) := by unfold OkP; infer_instance
def bkE (cs : List Int) (l : List Pt) : Int := if cs = [] then 4 else if ∀ c ∈ cs, Cf c then (if ∀ p ∈ l, OkP p then 0 else 18) else 11
theorem bkE_clef {cs : List Int} {l : List Pt} {c : Int} (h : c ∈ cs) (k : ¬ Cf c) : bkE cs l = 11 := by
  unfold bkE
  rw [if_neg (by intro e; rw [e] at h; cases h), if_neg (fun z => k (z c h))]
theorem bkE_pit {cs : List Int} {l : List Pt} {p : Pt} (h0 : cs ≠ []) (h1 : ∀ c ∈ cs, Cf c) (h : p ∈ l) (k : ¬ OkP p) : bkE cs l = 18 := by
  unfold bkE
  rw [if_neg h0, if_pos h1, if_neg (fun z => k (z p h))]
theorem bkE_ok {cs : List Int} {l : List Pt} (h0 : cs ≠ []) (h1 : ∀ c ∈ cs, Cf c) (h : ∀ p ∈ l, OkP p) : bkE cs l = 0 := by
  unfold bkE
  rw [if_neg h0, if_pos h1, if_pos h]
theorem all_take_next {α : Type} {q : α → Prop} {l : List α} {i : Nat} {x : α} (h : ∀ y ∈ l.take i, q y) (hi : l[i]? = some x) (hq : q x) : ∀ y ∈ l.take (i + 1), q y := by
  intro y hy
  rw [List.take_add_one, hi] at hy
  rcases List.mem_append.1 hy with hy | hy
  · exact h y hy
  · simp at hy; subst hy; exact hq

set_option maxRecDepth 100000 in
set_option maxHeartbeats 3200000 in
theorem checkAll_any (a b : Option Addr) (cs : List Int) (l : List Pt) (c1 c2 : Nat) (w : World) (hl : cs.length ≤ 9) (hl2 : l.length ≤ 20) (h1 : IntsAt w a cs) (h2 : PitsAt w b l) (hT : Tab w) :
    Calls Tryd.prog 38 #[.slice a cs.length c1, .slice b l.length c2] w fun e w' => e = .returned (.int .i64 (bkE cs l)) ∧ G w w' := by
  have HT := Lib.hid hT
  have H1 := Lib.hid h1
  have H2 := Lib.hid h2
  have HL := Lib.hid hl
  have HL2 := Lib.hid hl2
  clear hT h1 h2
  obtain ⟨R, hR⟩ : ∃ z : Int, Hid (z = bkE cs l) := ⟨_, rfl⟩
  rw [← hR.out]
  by_cases h0 : cs.length = 0
  · have hR2 : R = 4 := hR.out.trans (if_pos (List.length_eq_zero_iff.1 h0))
    rw [hR2, h0]
    go_enter Tryd.func38, Tryd.ntmps38
    go_wp2_with fail
    go_ret
    exact ⟨rfl, by (repeat' (first | (with_reducible exact G.refl _) | (with_reducible assumption) | (with_reducible refine G.drewN ?_ _) | (with_reducible refine G.drew ?_) | (with_reducible refine G.alloc ?_ _) | (with_reducible refine G.setCell ?_ (by first | (with_reducible exact Nat.le_refl _) | (simp; done) | (simp; omega) | omega) _) | (with_reducible refine G.trans ?_ (by assumption))))⟩
  · have hne : cs ≠ [] := fun e => h0 (by rw [e]; rfl)
    have HN := Lib.hid hne
    have hk : ((cs.length : Int) == 0) = false := beq_false_of_ne (by omega)
    have hk2 : ((l.length : Int) ≤ 20) := by omega
    rcases H1.out with hz | ⟨bl, o, rfl, fc⟩
    · exact absurd hz hne
    have FC := Lib.hid fc
    clear fc h0 hne
    go_enter Tryd.func38, Tryd.ntmps38
    go_wp2_with fail
    go_loopg [16] cs.length (fun k x wr => ∃ i : Nat, x = .int .i64 i ∧ k = cs.length - i ∧ i ≤ cs.length ∧ Hid (∀ c ∈ cs.take i, Cf c) ∧ G w wr)
    case atStart => exact ⟨0, rfl, by omega, by omega, Lib.hid (by simp), by (repeat' (first | (with_reducible exact G.refl _) | (with_reducible assumption) | (with_reducible refine G.drewN ?_ _) | (with_reducible refine G.drew ?_) | (with_reducible refine G.alloc ?_ _) | (with_reducible refine G.setCell ?_ (by first | (with_reducible exact Nat.le_refl _) | (simp; done) | (simp; omega) | omega) _) | (with_reducible refine G.trans ?_ (by assumption))))⟩
    case round =>
      obtain ⟨i, rfl, hg, hi, hA, gr⟩ := hrel
      have HG := Lib.hid hg
      clear hg
      by_cases hin : i < cs.length
      · obtain ⟨c, hc⟩ : ∃ c, cs[i]? = some c := ⟨cs[i], List.getElem?_eq_getElem hin⟩
        have x0 := gr.at (FC.out i c hc)
        have HCI := Lib.hid hc
        have b1 : (0 : Int) ≤ (i : Int) := by omega
        have b2 : (i : Int) < (cs.length : Int) := by omega
        have q1 := IntWalk.i64_in ((i : Int) + 1) (by omega)
        clear hc
        by_cases hcf : Cf c
        · have HCF := Lib.hid hcf
          clear hcf
          go_wp2_with fail
          refine (cCheck_any c _).mono ?_
          rintro e w2 ⟨rfl, rfl⟩
          rw [ck_ok HCF.out]
          go_wp2_with fail
          go_roundg (cs.length - (i + 1))
          case measure => have := HG.out; omega
          case rel => exact ⟨i + 1, by first | rfl | simp, rfl, by omega, Lib.hid (all_take_next hA.out HCI.out HCF.out), by (repeat' (first | (with_reducible exact G.refl _) | (with_reducible assumption) | (with_reducible refine G.drewN ?_ _) | (with_reducible refine G.drew ?_) | (with_reducible refine G.alloc ?_ _) | (with_reducible refine G.setCell ?_ (by first | (with_reducible exact Nat.le_refl _) | (simp; done) | (simp; omega) | omega) _) | (with_reducible refine G.trans ?_ (by assumption))))⟩
        · have HCF := Lib.hid hcf
          have HR := Lib.hid (show R = 11 from hR.out.trans (bkE_clef (List.mem_of_getElem? HCI.out) hcf))
          clear hcf
          go_wp2_with fail
          refine (cCheck_any c _).mono ?_
          rintro e w2 ⟨rfl, rfl⟩
          rw [ck_bad HCF.out]
          go_wp2_with fail
          go_ret
          exact ⟨by rw [HR.out]; rfl, by (repeat' (first | (with_reducible exact G.refl _) | (with_reducible assumption) | (with_reducible refine G.drewN ?_ _) | (with_reducible refine G.drew ?_) | (with_reducible refine G.alloc ?_ _) | (with_reducible refine G.setCell ?_ (by first | (with_reducible exact Nat.le_refl _) | (simp; done) | (simp; omega) | omega) _) | (with_reducible refine G.trans ?_ (by assumption))))⟩
      · have hii : i = cs.length := by omega
        subst hii
        have HAll := Lib.hid (show ∀ c ∈ cs, Cf c by have := hA.out; rwa [List.take_length] at this)
        clear hA hin
        go_wp2_with fail
        have gw : G w wr := gr
        go_loopg [28] l.length (fun k x wr => ∃ i : Nat, x = .int .i64 i ∧ k = l.length - i ∧ i ≤ l.length ∧ Hid (∀ p ∈ l.take i, OkP p) ∧ G w wr)
        case atStart => exact ⟨0, rfl, by omega, by omega, Lib.hid (by simp), gw⟩
        case round =>
          obtain ⟨i, rfl, hg2, hi2, hA2, gr2⟩ := hrel
          have HG2 := Lib.hid hg2
          clear hg2
          by_cases hin : i < l.length
          · obtain ⟨⟨s, t, u⟩, hp⟩ : ∃ c, l[i]? = some c := ⟨l[i], List.getElem?_eq_getElem hin⟩
            rcases H2.out with hz | ⟨b2', o2, rfl, fp⟩
            · rw [hz] at hin; exact absurd hin (by simp)
            obtain ⟨x0', x1', x2'⟩ := fp i _ hp
            have x0 := gr2.at x0'
            have x1 := gr2.at x1'
            have x2 := gr2.at x2'
            have HCI := Lib.hid hp
            have b1 : (0 : Int) ≤ (i : Int) := by omega
            have b2 : (i : Int) < (l.length : Int) := by omega
            have q1 := IntWalk.i64_in ((i : Int) + 1) (by omega)
            clear hp fp x0' x1' x2'
            by_cases hcf : Ok s t u
            · have HCF := Lib.hid hcf
              clear hcf
              go_wp2_with fail
              refine (Check_any s t u _ (HT.out.hts.later (by (repeat' (first | (with_reducible exact G.refl _) | (with_reducible assumption) | (with_reducible refine G.drewN ?_ _) | (with_reducible refine G.drew ?_) | (with_reducible refine G.alloc ?_ _) | (with_reducible refine G.setCell ?_ (by first | (with_reducible exact Nat.le_refl _) | (simp; done) | (simp; omega) | omega) _) | (with_reducible refine G.trans ?_ (by assumption))))))).mono ?_
              rintro e w2 ⟨rfl, hG2⟩
              rw [er_ok HCF.out]
              go_wp2_with fail
              go_roundg (l.length - (i + 1))
              case measure => have := HG2.out; omega
              case rel => exact ⟨i + 1, by first | rfl | simp, rfl, by omega, Lib.hid (all_take_next hA2.out HCI.out HCF.out), by (repeat' (first | (with_reducible exact G.refl _) | (with_reducible assumption) | (with_reducible refine G.drewN ?_ _) | (with_reducible refine G.drew ?_) | (with_reducible refine G.alloc ?_ _) | (with_reducible refine G.setCell ?_ (by first | (with_reducible exact Nat.le_refl _) | (simp; done) | (simp; omega) | omega) _) | (with_reducible refine G.trans ?_ (by assumption))))⟩
            · have HCF := Lib.hid hcf
              have HR := Lib.hid (show R = 18 from hR.out.trans (bkE_pit HN.out HAll.out (List.mem_of_getElem? HCI.out) hcf))
              clear hcf
              go_wp2_with fail
              refine (Check_any s t u _ (HT.out.hts.later (by (repeat' (first | (with_reducible exact G.refl _) | (with_reducible assumption) | (with_reducible refine G.drewN ?_ _) | (with_reducible refine G.drew ?_) | (with_reducible refine G.alloc ?_ _) | (with_reducible refine G.setCell ?_ (by first | (with_reducible exact Nat.le_refl _) | (simp; done) | (simp; omega) | omega) _) | (with_reducible refine G.trans ?_ (by assumption))))))).mono ?_
              rintro e w2 ⟨rfl, hG2⟩
              rw [er_bad HCF.out]
              go_wp2_with fail
              go_ret
              exact ⟨by rw [HR.out]; rfl, by (repeat' (first | (with_reducible exact G.refl _) | (with_reducible assumption) | (with_reducible refine G.drewN ?_ _) | (with_reducible refine G.drew ?_) | (with_reducible refine G.alloc ?_ _) | (with_reducible refine G.setCell ?_ (by first | (with_reducible exact Nat.le_refl _) | (simp; done) | (simp; omega) | omega) _) | (with_reducible refine G.trans ?_ (by assumption))))⟩
          · have hii : i = l.length := by omega
            subst hii
            have HR := Lib.hid (show R = 0 from hR.out.trans (bkE_ok HN.out HAll.out (by have := hA2.out; rwa [List.take_length] at this)))
            go_wp2_with fail
            go_ret
            exact ⟨by rw [HR.out]; rfl, by (repeat' (first | (with_reducible exact G.refl _) | (with_reducible assumption) | (with_reducible refine G.drewN ?_ _) | (with_reducible refine G.drew ?_) | (with_reducible refine G.alloc ?_ _) | (with_reducible refine G.setCell ?_ (by first | (with_reducible exact Nat.le_refl _) | (simp; done) | (simp; omega) | omega) _) | (with_reducible refine G.trans ?_ (by assumption))))⟩
end Go.Proofs.YtnakfeamimeioaaDoor
