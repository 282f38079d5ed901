import Derived.Test.YtabaiklagobimaaT2
/-! Tuplets: the closure's call. -/
namespace Go.Proofs.Ytabaiklagobimaa
open Go.RowKit
attribute [local go_sem] World.cell?_alloc_some

theorem St.made {W0 w6 : World} {bl bs BB : Nat} {vl u v' : Value} {M' : List Int} (g : G W0 w6) (cl : w6.cell? ⟨bl, 0, none⟩ = some vl) (cs : w6.cell? ⟨bs, 0, none⟩ = some u) (fs : w6.frozen? ⟨bs, 0, none⟩ = false) (o1 : W0.heap.size ≤ bl) (o2 : bl < bs) (o3 : bs < BB)
    (hr : Row inE 3 1 BB w6 v' M') : St W0 bl bs BB vl v' M' (w6.setCell ⟨bs, 0, none⟩ v') := by
  refine ⟨g.setCell (by show W0.heap.size ≤ bs; omega) v', ?_, World.cell?_setCell_same _ _ _ cs, by simp [go_sem]; exact fs, hr.far o3 0 v', o1, o2, o3⟩
  rw [World.cell?_setCell_far _ _ _ _ (by show bs ≠ bl; omega)]
  exact cl
theorem iPop_cons_pos {l : List Tu} {k : Nat} {s : List Nat} {x : Int} (h : en (l[k]!) ≤ x) : iPop l (k :: s) x = iPop l s x := by
  unfold iPop
  rw [List.dropWhile_cons_of_pos (by simpa using h)]
theorem iPop_cons_neg {l : List Tu} {k : Nat} {s : List Nat} {x : Int} (h : ¬ en (l[k]!) ≤ x) : iPop l (k :: s) x = k :: s := by
  unfold iPop
  rw [List.dropWhile_cons_of_neg (by simpa using h)]

set_option maxRecDepth 100000 in
set_option maxHeartbeats 12800000 in
theorem open_any (W0 : World) (a : Option Addr) (l : List Tu) (n c bl bs BB i : Nat) (v : Value) (w : World) (hn : l.length = n) (h1 : TusAt W0 a l) (hl : n ≤ 20)
    (hB : BB ≤ w.heap.size) (hs : St W0 bl bs BB (.slice a n c) v (stM (istk l i)) w) (hi : i < n) (hb : ∀ k t, k ≤ i → l[k]? = some t → 0 ≤ t.f ∧ 0 ≤ t.c ∧ t.f + t.c ≤ 128) :
    Calls Try.prog 52 #[.int .i64 i, .pointer (some ⟨bs, 0, none⟩), .pointer (some ⟨bl, 0, none⟩)] w fun e w' => ∃ v', e = .returned (.tuple #[.int .i64 (tr l i), .int .i64 (dp l i)]) ∧ St W0 bl bs BB (.slice a n c) v' (stM (istk l (i + 1))) w' ∧ Op w w' bs v := by
  subst hn
  obtain ⟨i0, hi0, hz0, hz1, hz2⟩ := info_parts' iInfo
  obtain ⟨⟨f, cc, aa, nn⟩, hp⟩ : ∃ t, l[i]? = some t := ⟨l[i], List.getElem?_eq_getElem hi⟩
  have X := at_get hp
  have HTR := Lib.hid (show tr l i = (match (iPop l (istk l i) f).head? with | none => -1 | some k => (k : Int)) by unfold tr; rw [X]; first | done | rfl)
  have HDP := Lib.hid (show dp l i = (iPop l (istk l i) f).length by unfold dp; rw [X]; first | done | rfl)
  have HIS := Lib.hid (show istk l (i + 1) = i :: iPop l (istk l i) f by rw [istk, X]; first | done | rfl)
  rcases h1 with hz | ⟨b0, of, rfl, fc⟩
  · rw [hz] at hp; simp at hp
  have FC := Lib.hid fc
  have HB := Lib.hid hb
  have HP := Lib.hid hp
  have HS0 := Lib.hid hs
  have HBB0 := Lib.hid hB
  have HLT := Lib.hid (istk_lt l i)
  have hil := (List.pairwise_iff_getElem.1 (istk_desc l i))
  have c1 : (0 : Int) ≤ (i : Int) := by omega
  have c2 : (i : Int) < (l.length : Int) := by omega
  clear fc hb hp X hs hil hB
  go_enter Try.func52, Try.ntmps52
  go_wp2_with fail
  go_loopg [6] (istk l i).length (fun q _ wr => ∃ (s : List Nat) (u : Value), q = s.length ∧ Hid (iPop l (istk l i) f = iPop l s f) ∧ Hid (∀ k ∈ s, k < i) ∧ Hid (s.length ≤ (istk l i).length) ∧ Hid (St W0 bl bs BB (.slice (some ⟨b0, of, none⟩) l.length c) u (stM s) wr) ∧ Hid (Op w wr bs v) ∧ Hid (u.ownBlock = v.ownBlock))
  case atStart => exact ⟨istk l i, v, rfl, Lib.hid rfl, HLT, Lib.hid (Nat.le_refl _), HS0, Lib.hid (Op.refl _ _ _), Lib.hid rfl⟩
  case round =>
    obtain ⟨s, u, hq, hP, hS, hSL, hSt, hOp, hU⟩ := hrel
    have HQ := Lib.hid hq
    clear hq
    have y0 := hSt.out.cs
    have y1 := hSt.out.cl
    have y2 := hSt.out.fs
    cases s with
    | nil =>
      obtain ⟨p, cap, hu, hcap⟩ := hSt.out.row.len
      rw [stM_len] at hu
      dsimp only [List.length_nil] at hu
      subst hu
      have hRW := Lib.hid hSt.out.row
      have HO := Lib.hid (And.intro hSt.out.o1 (And.intro hSt.out.o2 hSt.out.o3))
      have HSS := Lib.hid (show (([] : List Nat)).length ≤ 20 by simp)
      have HSZ := Lib.hid (show BB ≤ wr.heap.size from Nat.le_trans HBB0.out hOp.out.1)
      go_wp2_with fail
      go_big_region
      all_goals
        go_wp2_with fail
        go_big_region
        all_goals
          go_wp2_with (at_builtin; refine wpList_append_own _ rfl _ _ 40 rfl BB 3 i0 (.int .i64 0) 1 8 Try.underlying40 hi0 hz0 hz1 hz2 rfl (by decide) (.slice p 0 cap) (stM []).length ((stM []).flatMap inE) rfl (show Row inE 3 1 BB _ (.slice p 0 cap) (stM []) from hRW.out.later (by (repeat' (first | (with_reducible exact G.refl _) | (with_reducible assumption) | (with_reducible refine G.drewN ?_ _) | (with_reducible refine G.drew ?_) | (with_reducible refine G.alloc ?_ _) | (with_reducible refine G.setCell ?_ (by first | (with_reducible exact Nat.le_refl _) | (simp; done) | (simp; omega) | omega) _) | (with_reducible refine G.trans ?_ (by assumption)))))) ⟨wr.heap.size, 0, none⟩ 1 1 [.int .i64 i] rfl rfl (new_add _ _ [.int .i64 i] _ (by simp [go_sem])) (by simp [Value.oneCell']) (by unfold maxLen; rw [stM_len]; have := HSS.out; omega) (by rw [stM_len]; have := HSS.out; omega) (by have := HSZ.out; simp [go_sem]; omega) ?_; intro v' w6 hown' hgrow _; have hown := Row.more (enc := inE) (M := stM []) (x := (i : Int)) hown'; clear hown'; obtain ⟨pp, cq, hv', _⟩ := hown.len; rw [List.length_append, List.length_singleton] at hv'; subst hv'; obtain ⟨gN, cl6, cs6, fs6⟩ := St.grown (hSt.out.later (show G wr _ by (repeat' (first | (with_reducible exact G.refl _) | (with_reducible assumption) | (with_reducible refine G.drewN ?_ _) | (with_reducible refine G.drew ?_) | (with_reducible refine G.alloc ?_ _) | (with_reducible refine G.setCell ?_ (by first | (with_reducible exact Nat.le_refl _) | (simp; done) | (simp; omega) | omega) _) | (with_reducible refine G.trans ?_ (by assumption)))))) hgrow)
          go_returns
          refine ⟨.slice pp ((stM []).length + 1) cq, by rw [HTR.out, HDP.out, hP.out]; first | done | rfl, ?_, ?_⟩
          · rw [HIS.out, hP.out, stM_cons]
            exact St.made gN cl6 cs6 fs6 HO.out.1 HO.out.2.1 HO.out.2.2 hown
          · exact Op.put (Op.grown (Op.g hOp.out (show G wr _ by (repeat' (first | (with_reducible exact G.refl _) | (with_reducible assumption) | (with_reducible refine G.drewN ?_ _) | (with_reducible refine G.drew ?_) | (with_reducible refine G.alloc ?_ _) | (with_reducible refine G.setCell ?_ (by first | (with_reducible exact Nat.le_refl _) | (simp; done) | (simp; omega) | omega) _) | (with_reducible refine G.trans ?_ (by assumption)))))) hgrow hU.out) _
    | cons k r =>
      obtain ⟨g, cap, rfl, hcap, hk, hr'⟩ := hSt.out.row.top
      obtain ⟨m, hm⟩ : ∃ z : Nat, Hid (r.length + 1 = z) := ⟨_, rfl⟩
      rw [hm.out] at hcap y0 hSt
      have hki : k < i := hS.out k (by simp)
      obtain ⟨⟨f1, c1', a1, n1⟩, hk1⟩ : ∃ z, l[k]? = some z := ⟨l[k], List.getElem?_eq_getElem (by omega)⟩
      obtain ⟨x0, x1, x2, x3⟩ := (FC.out k _ hk1).later hSt.out.g
      obtain ⟨z0, _, _, _⟩ := (FC.out i _ HP.out).later hSt.out.g
      dsimp only at x0 x1 x2 x3 z0
      have hb1 := HB.out k _ (by omega) hk1
      dsimp only at hb1
      have XK := Lib.hid (show en (l[k]!) = f1 + c1' by rw [at_get hk1]; rfl)
      have HBB := Lib.hid (show -9223372036854775808 ≤ f1 + c1' ∧ f1 + c1' ≤ 9223372036854775807 by omega)
      have HR' := Lib.hid hr'
      have d1 : (0 : Int) ≤ (k : Int) := by omega
      have d2 : (k : Int) < (l.length : Int) := by omega
      have HM := hm.out
      have HML := Lib.hid (show m ≤ 20 by have := hSL.out; rw [List.length_cons] at this; have := istk_len l i; omega)
      have d3 : (0 : Int) < (m : Int) := by omega
      have d4 : (0 : Int) ≤ (m : Int) - 1 := by omega
      have d5 : (m : Int) - 1 < (m : Int) := by omega
      have d6 := IntWalk.i64_in ((m : Int) - 1) (by have := HML.out; omega)
      have d7 : ((m : Int) - 1).toNat = r.length := by omega
      have i2 : decide (0 < (m : Int)) = true := decide_eq_true d3
      have i3 : 0 < m := by omega
      have i4 : decide (0 < m) = true := decide_eq_true i3
      have i5 : (1 : Int) ≤ (m : Int) := by omega
      have i6 : (m : Int) - 1 ≤ (cap : Int) := by omega
      have i7 : (m : Int) ≤ (cap : Int) + 1 := by omega
      clear HM
      clear hb1 hk1 hr'
      by_cases e : f1 + c1' ≤ f
      · have HPP := Lib.hid (iPop_cons_pos (l := l) (k := k) (s := r) (x := f) (by rw [XK.out]; exact e))
        go_wp2_with fail
        go_region_held3 (fun w' => w'.cell? ⟨bs, 0, none⟩ = some (.slice (some ⟨g, 0, none⟩) m cap) ∧ w'.cell? ⟨bl, 0, none⟩ = some (.slice (some ⟨b0, of, none⟩) l.length c) ∧ w'.cell? ⟨g, r.length, none⟩ = some (.int .i64 k) ∧ w'.cell? ⟨b0, of + k * 4, none⟩ = some (.int .i64 f1) ∧ w'.cell? ⟨b0, of + k * 4 + 1, none⟩ = some (.int .i64 c1') ∧ w'.cell? ⟨b0, of + k * 4 + 2, none⟩ = some (.int .i64 a1) ∧ w'.cell? ⟨b0, of + k * 4 + 3, none⟩ = some (.int .i64 n1) ∧ w'.cell? ⟨b0, of + i * 4, none⟩ = some (.int .i64 f))
          (first | (with_reducible assumption) | ((try dsimp only); (repeat' (with_reducible apply And.intro)) <;> go_simp))
          (first | (go_at_call 41; refine (end_any _ _ _ _ _ HBB.out.1 HBB.out.2).mono ?_; rintro x w9 ⟨rfl, hG9⟩; have gq : G wr w9 := G.trans (by (repeat' (first | (with_reducible exact G.refl _) | (with_reducible refine G.drewN ?_ _) | (with_reducible refine G.drew ?_) | (with_reducible refine G.alloc ?_ _)))) hG9; have Y0 := gq.at y0; have Y1 := gq.at y1; have Y2 := (gq.frozen (cell_lt y0)).trans y2; have K0 := gq.at hk; have X0 := gq.at x0; have X1 := gq.at x1; have X2 := gq.at x2; have X3 := gq.at x3; have Z0 := gq.at z0))
        all_goals
          go_wp2_with fail
          go_roundg r.length
          case measure => have := HQ.out; rw [List.length_cons] at this; omega
          case rel => exact ⟨r, .slice (some ⟨g, 0, none⟩) r.length cap, by omega, Lib.hid (by rw [hP.out, HPP.out]), Lib.hid (fun j hj => hS.out j (by simp [hj])), Lib.hid (by have := hSL.out; rw [List.length_cons] at this; omega), Lib.hid ((hSt.out.later gq).put (HR'.out.later gq)), Lib.hid ((hOp.out.g gq).put _), Lib.hid hU.out⟩
      · have HPP := Lib.hid (iPop_cons_neg (l := l) (k := k) (s := r) (x := f) (by rw [XK.out]; exact e))
        have hRW := Lib.hid hSt.out.row
        have HO := Lib.hid (And.intro hSt.out.o1 (And.intro hSt.out.o2 hSt.out.o3))
        have HSS := Lib.hid (show (k :: r).length ≤ 20 by rw [List.length_cons]; have := HML.out; have := hm.out; omega)
        have HSZ := Lib.hid (show BB ≤ wr.heap.size from Nat.le_trans HBB0.out hOp.out.1)
        go_wp2_with fail
        go_region_held3 (fun w' => w'.cell? ⟨bs, 0, none⟩ = some (.slice (some ⟨g, 0, none⟩) m cap) ∧ w'.cell? ⟨bl, 0, none⟩ = some (.slice (some ⟨b0, of, none⟩) l.length c) ∧ w'.cell? ⟨g, r.length, none⟩ = some (.int .i64 k) ∧ w'.cell? ⟨b0, of + k * 4, none⟩ = some (.int .i64 f1) ∧ w'.cell? ⟨b0, of + k * 4 + 1, none⟩ = some (.int .i64 c1') ∧ w'.cell? ⟨b0, of + k * 4 + 2, none⟩ = some (.int .i64 a1) ∧ w'.cell? ⟨b0, of + k * 4 + 3, none⟩ = some (.int .i64 n1) ∧ w'.cell? ⟨b0, of + i * 4, none⟩ = some (.int .i64 f))
          (first | (with_reducible assumption) | ((try dsimp only); (repeat' (with_reducible apply And.intro)) <;> go_simp))
          (first | (go_at_call 41; refine (end_any _ _ _ _ _ HBB.out.1 HBB.out.2).mono ?_; rintro x w9 ⟨rfl, hG9⟩; have gq : G wr w9 := G.trans (by (repeat' (first | (with_reducible exact G.refl _) | (with_reducible refine G.drewN ?_ _) | (with_reducible refine G.drew ?_) | (with_reducible refine G.alloc ?_ _)))) hG9; have Y0 := gq.at y0; have Y1 := gq.at y1; have Y2 := (gq.frozen (cell_lt y0)).trans y2; have K0 := gq.at hk; have X0 := gq.at x0; have X1 := gq.at x1; have X2 := gq.at x2; have X3 := gq.at x3; have Z0 := gq.at z0))
        all_goals
          go_wp2_with fail
          go_big_region
          all_goals
            go_wp2_with (at_builtin; refine wpList_append_own _ rfl _ _ 40 rfl BB 3 i0 (.int .i64 0) 1 8 Try.underlying40 hi0 hz0 hz1 hz2 rfl (by decide) (.slice (some ⟨g, 0, none⟩) m cap) (stM (k :: r)).length ((stM (k :: r)).flatMap inE) rfl (show Row inE 3 1 BB _ (.slice (some ⟨g, 0, none⟩) m cap) (stM (k :: r)) from hRW.out.later (by (repeat' (first | (with_reducible exact G.refl _) | (with_reducible assumption) | (with_reducible refine G.drewN ?_ _) | (with_reducible refine G.drew ?_) | (with_reducible refine G.alloc ?_ _) | (with_reducible refine G.setCell ?_ (by first | (with_reducible exact Nat.le_refl _) | (simp; done) | (simp; omega) | omega) _) | (with_reducible refine G.trans ?_ (by assumption)))))) ⟨w9.heap.size, 0, none⟩ 1 1 [.int .i64 i] rfl rfl (new_add _ _ [.int .i64 i] _ (by simp [go_sem])) (by simp [Value.oneCell']) (by unfold maxLen; rw [stM_len]; have := HSS.out; omega) (by rw [stM_len]; have := HSS.out; omega) (by have := HSZ.out; have := gq.size; simp [go_sem]; omega) ?_; intro v' w6 hown' hgrow _; have hown := Row.more (enc := inE) (M := stM (k :: r)) (x := (i : Int)) hown'; clear hown'; obtain ⟨pp, cq, hv', _⟩ := hown.len; rw [List.length_append, List.length_singleton] at hv'; subst hv'; obtain ⟨gN, cl6, cs6, fs6⟩ := St.grown (hSt.out.later (show G wr _ by (repeat' (first | (with_reducible exact G.refl _) | (with_reducible assumption) | (with_reducible refine G.drewN ?_ _) | (with_reducible refine G.drew ?_) | (with_reducible refine G.alloc ?_ _) | (with_reducible refine G.setCell ?_ (by first | (with_reducible exact Nat.le_refl _) | (simp; done) | (simp; omega) | omega) _) | (with_reducible refine G.trans ?_ (by assumption)))))) hgrow)
            go_returns
            refine ⟨.slice pp ((stM (k :: r)).length + 1) cq, by rw [HTR.out, HDP.out, hP.out]; rw [HPP.out, List.length_cons, hm.out]; first | done | rfl, ?_, ?_⟩
            · rw [HIS.out, hP.out, HPP.out, show stM (i :: k :: r) = stM (k :: r) ++ [(i : Int)] from stM_cons _ _]
              exact St.made gN cl6 cs6 fs6 HO.out.1 HO.out.2.1 HO.out.2.2 hown
            · exact Op.put (Op.grown (Op.g hOp.out (show G wr _ by (repeat' (first | (with_reducible exact G.refl _) | (with_reducible assumption) | (with_reducible refine G.drewN ?_ _) | (with_reducible refine G.drew ?_) | (with_reducible refine G.alloc ?_ _) | (with_reducible refine G.setCell ?_ (by first | (with_reducible exact Nat.le_refl _) | (simp; done) | (simp; omega) | omega) _) | (with_reducible refine G.trans ?_ (by assumption)))))) hgrow hU.out) _
end Go.Proofs.Ytabaiklagobimaa
