import Derived.Test.YtabaiklagobimaaT12
/-! Tuplets: Insert, of the program and of the reference; equal lists. -/
namespace Go.Proofs.Ytabaiklagobimaa
open Go.RowKit
attribute [local go_sem] World.cell?_alloc_some

/-- tuplets in a block that may be written -/
def TW (w : World) (g : Nat) (M : List Tu) : Prop := ∀ (i : Nat) (t : Tu), M[i]? = some t → ∀ (j : Nat) (u : Value), (tuE t)[j]? = some u → w.cell? ⟨g, i * 4 + j, none⟩ = some u ∧ w.frozen? ⟨g, i * 4 + j, none⟩ = false
theorem TW.later {w w' : World} {g : Nat} {M : List Tu} (h : TW w g M) (k : G w w') : TW w' g M := fun i t hi j u hj => by
  obtain ⟨c, f⟩ := h i t hi j u hj
  exact ⟨k.at c, (k.frozen (cell_lt c)).trans f⟩
theorem TW.set {w : World} {g : Nat} {M : List Tu} {i j : Nat} {t t' : Tu} {u : Value} (h : TW w g M) (hi : M[i]? = some t) (hj : j < 4) (ht : tuE t' = (tuE t).set j u) : TW (w.setCell ⟨g, i * 4 + j, none⟩ u) g (M.set i t') := fun k x hk m v hm => by
  have hm4 : m < 4 := by have := (List.getElem?_eq_some_iff.1 hm).1; rwa [tuE_len] at this
  have hil : i < M.length := (List.getElem?_eq_some_iff.1 hi).1
  by_cases e : i = k
  · subst e
    rw [List.getElem?_set_self hil] at hk
    obtain rfl := Option.some.inj hk
    rw [ht] at hm
    by_cases em : j = m
    · subst em
      rw [List.getElem?_set_self (by rw [tuE_len]; exact hj)] at hm
      obtain rfl := Option.some.inj hm
      have hj2 : (tuE t)[j]? = some ((tuE t)[j]'(by rw [tuE_len]; exact hj)) := List.getElem?_eq_getElem _
      obtain ⟨c, f⟩ := h i t hi j _ hj2
      exact ⟨World.cell?_setCell_same _ _ _ c, by simp [go_sem]; exact f⟩
    · rw [List.getElem?_set_ne em] at hm
      obtain ⟨c, f⟩ := h i t hi m v hm
      refine ⟨?_, by simp [go_sem]; exact f⟩
      rw [World.cell?_setCell_other _ _ _ _ (by simp only [ne_eq, Addr.mk.injEq]; omega)]
      exact c
  · rw [List.getElem?_set_ne e] at hk
    obtain ⟨c, f⟩ := h k x hk m v hm
    refine ⟨?_, by simp [go_sem]; exact f⟩
    rw [World.cell?_setCell_other _ _ _ _ (by simp only [ne_eq, Addr.mk.injEq]; omega)]
    exact c
theorem TW.tus {w : World} {g : Nat} {M : List Tu} (h : TW w g M) : TusAt w (some ⟨g, 0, none⟩) M :=
  .inr ⟨g, 0, rfl, fun i t hi => by
    rw [Nat.zero_add]
    exact ⟨(h i t hi 0 _ rfl).1, (h i t hi 1 _ rfl).1, (h i t hi 2 _ rfl).1, (h i t hi 3 _ rfl).1⟩⟩
theorem Row.tw {e : TypeId} {base : Nat} {w : World} {v : Value} {l : List Tu} (h : Row tuE e 4 base w v l) : ∃ p cap g, v = .slice p l.length cap ∧ (l = [] ∨ (p = some ⟨g, 0, none⟩ ∧ base ≤ g ∧ TW w g l)) := by
  rcases h.cells tuE_len with ⟨rfl, rfl⟩ | ⟨g, cap, rfl, hg, _, _, hc⟩
  · exact ⟨none, 0, 0, rfl, .inl rfl⟩
  · exact ⟨_, cap, g, rfl, .inr ⟨rfl, hg, fun i t hi j u hj => hc i t hi j u hj⟩⟩
def mI (at_ cnt : Int) (l : List Tu) (i : Nat) : List Tu := (l.take i).map (insT at_ cnt) ++ l.drop i
theorem mI_at {at_ cnt : Int} {l : List Tu} {i : Nat} {t : Tu} (h : l[i]? = some t) : (mI at_ cnt l i)[i]? = some t := by
  have hi := (List.getElem?_eq_some_iff.1 h).1
  unfold mI
  rw [List.getElem?_append_right (by rw [List.length_map, List.length_take]; omega), List.length_map, List.length_take, Nat.min_eq_left (by omega), Nat.sub_self, List.getElem?_drop]
  simpa using h
theorem mI_next {at_ cnt : Int} {l : List Tu} {i : Nat} {t : Tu} (h : l[i]? = some t) : (mI at_ cnt l i).set i (insT at_ cnt t) = mI at_ cnt l (i + 1) := by
  obtain ⟨hi, he⟩ := List.getElem?_eq_some_iff.1 h
  have hl : ((l.take i).map (insT at_ cnt)).length = i := by rw [List.length_map, List.length_take]; omega
  unfold mI
  rw [List.set_append_right _ _ (by omega), hl, Nat.sub_self, List.drop_eq_getElem_cons hi, List.set_cons_zero, List.take_add_one, h]
  simp
theorem mI_zero (at_ cnt : Int) (l : List Tu) : mI at_ cnt l 0 = l := by simp [mI]
theorem mI_all (at_ cnt : Int) (l : List Tu) : mI at_ cnt l l.length = l.map (insT at_ cnt) := by simp [mI]
def insE (l : List Tu) (ev at_ cnt : Int) : Int := if ckT ev l = 0 then (if 0 ≤ at_ ∧ at_ ≤ ev ∧ 0 ≤ cnt ∧ cnt ≤ 128 - ev then 0 else 2) else ckT ev l
def InsR (w' : World) (l : List Tu) (ev at_ cnt : Int) (v : Value) : Prop :=
  if insE l ev at_ cnt = 0 then ∃ a cap, v = .slice a l.length cap ∧ TusAt w' a (l.map (insT at_ cnt)) else v = .slice none 0 0
theorem InsR.nil {w : World} {l : List Tu} {ev at_ cnt : Int} (h : insE l ev at_ cnt ≠ 0) : InsR w l ev at_ cnt (.slice none 0 0) := by
  unfold InsR; rw [if_neg h]

set_option maxRecDepth 100000 in
set_option maxHeartbeats 12800000 in
theorem tInsert_any (a : Option Addr) (l : List Tu) (n c : Nat) (ev at_ cnt : Int) (w : World) (hn : l.length = n) (hl : n ≤ 20) (h1 : TusAt w a l) (hc : CB l) (hz : a = none → c = 0) :
    Calls Try.prog 34 #[.slice a n c, .int .i64 ev, .int .i64 at_, .int .i64 cnt] w fun e w' => ∃ v, e = .returned (.tuple #[v, .int .i64 (insE l ev at_ cnt)]) ∧ InsR w' l ev at_ cnt v ∧ G w w' := by
  have H1 := Lib.hid h1
  have HC := Lib.hid hc
  have HZ := Lib.hid hz
  obtain ⟨E, hE⟩ : ∃ z : Int, Hid (insE l ev at_ cnt = z) := ⟨_, rfl⟩
  rw [hE.out]
  clear h1 hc hz
  by_cases hk : ckT ev l = 0
  rotate_left
  · have HE := Lib.hid (show ckT ev l = E by rw [← hE.out]; exact (if_neg hk).symm)
    have HN := Lib.hid (show insE l ev at_ cnt ≠ 0 by rw [hE.out, ← HE.out]; exact hk)
    rw [HE.out] at hk
    have e3 : (E == 0) = false := beq_false_of_ne hk
    have e4 : (E != 0) = true := by simp [bne, e3]
    clear hk
    go_enter Try.func34, Try.ntmps34
    go_wp2_with fail
    refine (tCheck_any a l n c _ _ hn (H1.out.later (by (repeat' (first | (with_reducible exact G.refl _) | (with_reducible assumption) | (with_reducible refine G.drewN ?_ _) | (with_reducible refine G.drew ?_) | (with_reducible refine G.alloc ?_ _) | (with_reducible refine G.setCell ?_ (by first | (with_reducible exact Nat.le_refl _) | (simp; done) | (simp; omega) | omega) _) | (with_reducible refine G.trans ?_ (by assumption)))))) HC.out).mono ?_
    rintro e w1 ⟨rfl, hG⟩
    rw [HE.out]
    go_wp2_with fail
    go_returns
    exact ⟨_, rfl, InsR.nil HN.out, by (repeat' (first | (with_reducible exact G.refl _) | (with_reducible assumption) | (with_reducible refine G.drewN ?_ _) | (with_reducible refine G.drew ?_) | (with_reducible refine G.alloc ?_ _) | (with_reducible refine G.setCell ?_ (by first | (with_reducible exact Nat.le_refl _) | (simp; done) | (simp; omega) | omega) _) | (with_reducible refine G.trans ?_ (by assumption))))⟩
  have HK := Lib.hid hk
  have HKO := Lib.hid (ckT_ok hk)
  have hev := (ckT_ok hk).1
  have HEE := Lib.hid (show E = if 0 ≤ at_ ∧ at_ ≤ ev ∧ 0 ≤ cnt ∧ cnt ≤ 128 - ev then 0 else 2 from hE.out.symm.trans (if_pos hk))
  have q0 := IntWalk.i64_in (128 - ev) (by omega)
  have HOUT := Lib.hid (show ¬ (0 ≤ at_ ∧ at_ ≤ ev ∧ 0 ≤ cnt ∧ cnt ≤ 128 - ev) → E = 2 ∧ insE l ev at_ cnt ≠ 0 from fun h => ⟨HEE.out.trans (if_neg h), by rw [hE.out, HEE.out, if_neg h]; decide⟩)
  clear hk
  by_cases k1 : at_ < 0
  · have HO := Lib.hid (HOUT.out (by omega))
    clear hev
    go_enter Try.func34, Try.ntmps34
    go_wp2_with fail
    refine (tCheck_any a l n c _ _ hn (H1.out.later (by (repeat' (first | (with_reducible exact G.refl _) | (with_reducible assumption) | (with_reducible refine G.drewN ?_ _) | (with_reducible refine G.drew ?_) | (with_reducible refine G.alloc ?_ _) | (with_reducible refine G.setCell ?_ (by first | (with_reducible exact Nat.le_refl _) | (simp; done) | (simp; omega) | omega) _) | (with_reducible refine G.trans ?_ (by assumption)))))) HC.out).mono ?_
    rintro e w1 ⟨rfl, hG⟩
    rw [HK.out]
    go_wp2_with fail
    go_returns
    exact ⟨_, by rw [HO.out.1]; rfl, InsR.nil HO.out.2, by (repeat' (first | (with_reducible exact G.refl _) | (with_reducible assumption) | (with_reducible refine G.drewN ?_ _) | (with_reducible refine G.drew ?_) | (with_reducible refine G.alloc ?_ _) | (with_reducible refine G.setCell ?_ (by first | (with_reducible exact Nat.le_refl _) | (simp; done) | (simp; omega) | omega) _) | (with_reducible refine G.trans ?_ (by assumption))))⟩
  by_cases k2 : ev < at_
  · have HO := Lib.hid (HOUT.out (by omega))
    clear hev
    go_enter Try.func34, Try.ntmps34
    go_wp2_with fail
    refine (tCheck_any a l n c _ _ hn (H1.out.later (by (repeat' (first | (with_reducible exact G.refl _) | (with_reducible assumption) | (with_reducible refine G.drewN ?_ _) | (with_reducible refine G.drew ?_) | (with_reducible refine G.alloc ?_ _) | (with_reducible refine G.setCell ?_ (by first | (with_reducible exact Nat.le_refl _) | (simp; done) | (simp; omega) | omega) _) | (with_reducible refine G.trans ?_ (by assumption)))))) HC.out).mono ?_
    rintro e w1 ⟨rfl, hG⟩
    rw [HK.out]
    go_wp2_with fail
    go_returns
    exact ⟨_, by rw [HO.out.1]; rfl, InsR.nil HO.out.2, by (repeat' (first | (with_reducible exact G.refl _) | (with_reducible assumption) | (with_reducible refine G.drewN ?_ _) | (with_reducible refine G.drew ?_) | (with_reducible refine G.alloc ?_ _) | (with_reducible refine G.setCell ?_ (by first | (with_reducible exact Nat.le_refl _) | (simp; done) | (simp; omega) | omega) _) | (with_reducible refine G.trans ?_ (by assumption))))⟩
  by_cases k3 : cnt < 0
  · have HO := Lib.hid (HOUT.out (by omega))
    clear hev
    go_enter Try.func34, Try.ntmps34
    go_wp2_with fail
    refine (tCheck_any a l n c _ _ hn (H1.out.later (by (repeat' (first | (with_reducible exact G.refl _) | (with_reducible assumption) | (with_reducible refine G.drewN ?_ _) | (with_reducible refine G.drew ?_) | (with_reducible refine G.alloc ?_ _) | (with_reducible refine G.setCell ?_ (by first | (with_reducible exact Nat.le_refl _) | (simp; done) | (simp; omega) | omega) _) | (with_reducible refine G.trans ?_ (by assumption)))))) HC.out).mono ?_
    rintro e w1 ⟨rfl, hG⟩
    rw [HK.out]
    go_wp2_with fail
    go_returns
    exact ⟨_, by rw [HO.out.1]; rfl, InsR.nil HO.out.2, by (repeat' (first | (with_reducible exact G.refl _) | (with_reducible assumption) | (with_reducible refine G.drewN ?_ _) | (with_reducible refine G.drew ?_) | (with_reducible refine G.alloc ?_ _) | (with_reducible refine G.setCell ?_ (by first | (with_reducible exact Nat.le_refl _) | (simp; done) | (simp; omega) | omega) _) | (with_reducible refine G.trans ?_ (by assumption))))⟩
  by_cases k4 : 128 - ev < cnt
  · have HO := Lib.hid (HOUT.out (by omega))
    clear hev
    go_enter Try.func34, Try.ntmps34
    go_wp2_with fail
    refine (tCheck_any a l n c _ _ hn (H1.out.later (by (repeat' (first | (with_reducible exact G.refl _) | (with_reducible assumption) | (with_reducible refine G.drewN ?_ _) | (with_reducible refine G.drew ?_) | (with_reducible refine G.alloc ?_ _) | (with_reducible refine G.setCell ?_ (by first | (with_reducible exact Nat.le_refl _) | (simp; done) | (simp; omega) | omega) _) | (with_reducible refine G.trans ?_ (by assumption)))))) HC.out).mono ?_
    rintro e w1 ⟨rfl, hG⟩
    rw [HK.out]
    go_wp2_with fail
    go_returns
    exact ⟨_, by rw [HO.out.1]; rfl, InsR.nil HO.out.2, by (repeat' (first | (with_reducible exact G.refl _) | (with_reducible assumption) | (with_reducible refine G.drewN ?_ _) | (with_reducible refine G.drew ?_) | (with_reducible refine G.alloc ?_ _) | (with_reducible refine G.setCell ?_ (by first | (with_reducible exact Nat.le_refl _) | (simp; done) | (simp; omega) | omega) _) | (with_reducible refine G.trans ?_ (by assumption))))⟩
  have HIN := Lib.hid (show 0 ≤ at_ ∧ at_ ≤ ev ∧ 0 ≤ cnt ∧ cnt ≤ 128 - ev by omega)
  have HE0 := Lib.hid (show E = 0 by rw [HEE.out]; exact if_pos HIN.out)
  have HL := Lib.hid hl
  have HN := Lib.hid hn
  clear hev hl hn
  go_enter Try.func34, Try.ntmps34
  go_wp2_with fail
  refine (tCheck_any a l n c _ _ HN.out (H1.out.later (by (repeat' (first | (with_reducible exact G.refl _) | (with_reducible assumption) | (with_reducible refine G.drewN ?_ _) | (with_reducible refine G.drew ?_) | (with_reducible refine G.alloc ?_ _) | (with_reducible refine G.setCell ?_ (by first | (with_reducible exact Nat.le_refl _) | (simp; done) | (simp; omega) | omega) _) | (with_reducible refine G.trans ?_ (by assumption)))))) HC.out).mono ?_
  rintro e w1 ⟨rfl, hG⟩
  rw [HK.out]
  have g1 : G w w1 := G.trans (by (repeat' (first | (with_reducible exact G.refl _) | (with_reducible refine G.drewN ?_ _) | (with_reducible refine G.drew ?_) | (with_reducible refine G.alloc ?_ _)))) hG
  go_wp2_with fail
  refine (Clone_any a l n c _ HN.out HL.out (H1.out.later (g1.trans (by (repeat' (first | (with_reducible exact G.refl _) | (with_reducible assumption) | (with_reducible refine G.drewN ?_ _) | (with_reducible refine G.drew ?_) | (with_reducible refine G.alloc ?_ _) | (with_reducible refine G.setCell ?_ (by first | (with_reducible exact Nat.le_refl _) | (simp; done) | (simp; omega) | omega) _) | (with_reducible refine G.trans ?_ (by assumption))))))) HZ.out).mono ?_
  rintro e w2 ⟨v, rfl, hR, hG2⟩
  have g2 : G w w2 := g1.trans (G.trans (by (repeat' (first | (with_reducible exact G.refl _) | (with_reducible refine G.drewN ?_ _) | (with_reducible refine G.drew ?_) | (with_reducible refine G.alloc ?_ _)))) hG2)
  obtain ⟨p, cap, g, rfl, hsh⟩ := hR.tw
  rw [HN.out]
  have HSH := Lib.hid (show l = [] ∨ (p = some ⟨g, 0, none⟩ ∧ w.heap.size ≤ g ∧ TW w2 g l) from by
    rcases hsh with h | ⟨h1, h2, h3⟩
    · exact .inl h
    · exact .inr ⟨h1, Nat.le_trans g1.size (Nat.le_trans (by first | exact Nat.le_refl _ | simp) h2), h3⟩)
  clear hR hsh
  go_wp2_with fail
  go_loopg [41] n (fun q x wr => ∃ i : Nat, x = .int .i64 i ∧ q = n - i ∧ i ≤ n ∧ Hid (l = [] ∨ TW wr g (mI at_ cnt l i)) ∧ G w wr)
  case atStart => exact ⟨0, rfl, by omega, by omega, Lib.hid (by rw [mI_zero]; exact HSH.out.imp id (fun h => h.2.2.later (by (repeat' (first | (with_reducible exact G.refl _) | (with_reducible assumption) | (with_reducible refine G.drewN ?_ _) | (with_reducible refine G.drew ?_) | (with_reducible refine G.alloc ?_ _) | (with_reducible refine G.setCell ?_ (by first | (with_reducible exact Nat.le_refl _) | (simp; done) | (simp; omega) | omega) _) | (with_reducible refine G.trans ?_ (by assumption))))))), by (repeat' (first | (with_reducible exact G.refl _) | (with_reducible assumption) | (with_reducible refine G.drewN ?_ _) | (with_reducible refine G.drew ?_) | (with_reducible refine G.alloc ?_ _) | (with_reducible refine G.setCell ?_ (by first | (with_reducible exact Nat.le_refl _) | (simp; done) | (simp; omega) | omega) _) | (with_reducible refine G.trans ?_ (by assumption))))⟩
  case round =>
    obtain ⟨i, rfl, hq, hi, hW, gr⟩ := hrel
    have HQ := Lib.hid hq
    clear hq
    by_cases hin : i < n
    · obtain ⟨⟨f, cc, aa, nn⟩, hp⟩ : ∃ z, l[i]? = some z := ⟨l[i]'(by have := HN.out; omega), List.getElem?_eq_getElem (by have := HN.out; omega)⟩
      rcases H1.out with hz | ⟨b0, of, rfl, fc⟩
      · rw [hz] at hp; simp at hp
      rcases HSH.out with hz | ⟨rfl, hgw, _⟩
      · rw [hz] at hp; simp at hp
      have hTW : TW wr g (mI at_ cnt l i) := by
        rcases hW.out with hz | h
        · rw [hz] at hp; simp at hp
        · exact h
      have HTW := Lib.hid hTW
      have HGW := Lib.hid hgw
      obtain ⟨x0, x1, x2, x3⟩ := (fc i _ hp).later gr
      dsimp only at x0 x1 x2 x3
      have hone := HKO.out.2.2.2.1 _ (List.mem_of_getElem? hp)
      have hev2 := HKO.out.1
      have HII := Lib.hid (show 0 ≤ f ∧ 0 ≤ cc ∧ f + cc ≤ 128 by unfold InR at hone; dsimp only at hone; omega)
      have HMA := Lib.hid (mI_at (at_ := at_) (cnt := cnt) hp)
      have HMN := Lib.hid (mI_next (at_ := at_) (cnt := cnt) hp)
      have b1 : (0 : Int) ≤ (i : Int) := by omega
      have b2 : (i : Int) < (n : Int) := by omega
      have q1 := IntWalk.i64_in ((i : Int) + 1) (by have := HL.out; omega)
      have q2 := IntWalk.i64_in (f + cnt) (by have := HII.out; have := HIN.out; omega)
      have q3 := IntWalk.i64_in (cc + cnt) (by have := HII.out; have := HIN.out; omega)
      clear fc hp hTW hgw hone hev2
      by_cases hat : at_ ≤ f
      · have HIT := Lib.hid (show insT at_ cnt ⟨f, cc, aa, nn⟩ = ⟨f + cnt, cc, aa, nn⟩ from if_pos hat)
        obtain ⟨y0, y1⟩ := HTW.out i _ HMA.out 0 _ rfl
        rw [Nat.add_zero (i * 4)] at y0 y1
        have T9 := Lib.hid (HTW.out.later (show G wr (wr.alloc (.cells #[.int .i64 f, .int .i64 cc, .int .i64 aa, .int .i64 nn] 52)) by (repeat' (first | (with_reducible exact G.refl _) | (with_reducible assumption) | (with_reducible refine G.drewN ?_ _) | (with_reducible refine G.drew ?_) | (with_reducible refine G.alloc ?_ _) | (with_reducible refine G.setCell ?_ (by first | (with_reducible exact Nat.le_refl _) | (simp; done) | (simp; omega) | omega) _) | (with_reducible refine G.trans ?_ (by assumption))))))
        obtain ⟨Y0, Y1⟩ := T9.out i _ HMA.out 0 _ rfl
        rw [Nat.add_zero (i * 4)] at Y0 Y1
        go_wp2_with fail
        go_roundg (n - (i + 1))
        case measure => have := HQ.out; omega
        case rel => exact ⟨i + 1, by go_num, rfl, by omega, Lib.hid (.inr (by
          have h := T9.out.set (j := 0) HMA.out (by decide) (show tuE (insT at_ cnt ⟨f, cc, aa, nn⟩) = (tuE ⟨f, cc, aa, nn⟩).set 0 (.int .i64 (f + cnt)) by rw [HIT.out]; rfl)
          rw [HMN.out, Nat.add_zero (i * 4)] at h
          exact h)), G.setCell (by (repeat' (first | (with_reducible exact G.refl _) | (with_reducible assumption) | (with_reducible refine G.drewN ?_ _) | (with_reducible refine G.drew ?_) | (with_reducible refine G.alloc ?_ _) | (with_reducible refine G.setCell ?_ (by first | (with_reducible exact Nat.le_refl _) | (simp; done) | (simp; omega) | omega) _) | (with_reducible refine G.trans ?_ (by assumption))))) (by exact HGW.out) _⟩
      · by_cases hit : InT ⟨f, cc, aa, nn⟩ at_
        · have HIT := Lib.hid (show insT at_ cnt ⟨f, cc, aa, nn⟩ = ⟨f, cc + cnt, aa, nn⟩ from (if_neg hat).trans (if_pos hit))
          have HHH := Lib.hid hit
          clear hit
          go_wp2_with fail
          refine (contains_any _ _ _ _ _ _ (by have := HII.out; omega) (by have := HII.out; omega)).mono ?_
          rintro x w4 ⟨rfl, hG4⟩
          rw [decide_eq_true HHH.out]
          have g4 : G wr w4 := G.trans (by (repeat' (first | (with_reducible exact G.refl _) | (with_reducible refine G.drewN ?_ _) | (with_reducible refine G.drew ?_) | (with_reducible refine G.alloc ?_ _)))) hG4
          have T4 := Lib.hid (HTW.out.later g4)
          obtain ⟨y0, y1⟩ := T4.out i _ HMA.out 1 _ rfl
          go_wp2_with fail
          go_roundg (n - (i + 1))
          case measure => have := HQ.out; omega
          case rel => exact ⟨i + 1, by go_num, rfl, by omega, Lib.hid (.inr (by
            have h := T4.out.set (j := 1) HMA.out (by decide) (show tuE (insT at_ cnt ⟨f, cc, aa, nn⟩) = (tuE ⟨f, cc, aa, nn⟩).set 1 (.int .i64 (cc + cnt)) by rw [HIT.out]; rfl)
            rw [HMN.out] at h
            exact h)), G.setCell (by (repeat' (first | (with_reducible exact G.refl _) | (with_reducible assumption) | (with_reducible refine G.drewN ?_ _) | (with_reducible refine G.drew ?_) | (with_reducible refine G.alloc ?_ _) | (with_reducible refine G.setCell ?_ (by first | (with_reducible exact Nat.le_refl _) | (simp; done) | (simp; omega) | omega) _) | (with_reducible refine G.trans ?_ (by assumption))))) (by exact HGW.out) _⟩
        · have HIT := Lib.hid (show insT at_ cnt ⟨f, cc, aa, nn⟩ = ⟨f, cc, aa, nn⟩ from (if_neg hat).trans (if_neg hit))
          have HHH := Lib.hid hit
          have HSM := Lib.hid (show mI at_ cnt l (i + 1) = mI at_ cnt l i by
            rw [← HMN.out, HIT.out]
            exact List.ext_getElem? fun k => by
              rw [List.getElem?_set]
              split
              · rename_i e
                subst e
                rw [HMA.out, if_pos (List.getElem?_eq_some_iff.1 HMA.out).1]
              · rfl)
          clear hit
          go_wp2_with fail
          refine (contains_any _ _ _ _ _ _ (by have := HII.out; omega) (by have := HII.out; omega)).mono ?_
          rintro x w4 ⟨rfl, hG4⟩
          rw [decide_eq_false HHH.out]
          have g4 : G wr w4 := G.trans (by (repeat' (first | (with_reducible exact G.refl _) | (with_reducible refine G.drewN ?_ _) | (with_reducible refine G.drew ?_) | (with_reducible refine G.alloc ?_ _)))) hG4
          go_wp2_with fail
          go_roundg (n - (i + 1))
          case measure => have := HQ.out; omega
          case rel => exact ⟨i + 1, by go_num, rfl, by omega, Lib.hid (.inr (by rw [HSM.out]; exact HTW.out.later (by (repeat' (first | (with_reducible exact G.refl _) | (with_reducible assumption) | (with_reducible refine G.drewN ?_ _) | (with_reducible refine G.drew ?_) | (with_reducible refine G.alloc ?_ _) | (with_reducible refine G.setCell ?_ (by first | (with_reducible exact Nat.le_refl _) | (simp; done) | (simp; omega) | omega) _) | (with_reducible refine G.trans ?_ (by assumption))))))), by (repeat' (first | (with_reducible exact G.refl _) | (with_reducible assumption) | (with_reducible refine G.drewN ?_ _) | (with_reducible refine G.drew ?_) | (with_reducible refine G.alloc ?_ _) | (with_reducible refine G.setCell ?_ (by first | (with_reducible exact Nat.le_refl _) | (simp; done) | (simp; omega) | omega) _) | (with_reducible refine G.trans ?_ (by assumption))))⟩
    · have hii : i = n := by omega
      have hW2 := hW.out
      rw [hii, show mI at_ cnt l n = l.map (insT at_ cnt) by rw [← HN.out]; exact mI_all _ _ _] at hW2
      have HW2 := Lib.hid hW2
      clear hW2
      go_wp2_with fail
      go_returns
      refine ⟨.slice p n cap, by rw [HE0.out]; first | done | rfl, ?_, by (repeat' (first | (with_reducible exact G.refl _) | (with_reducible assumption) | (with_reducible refine G.drewN ?_ _) | (with_reducible refine G.drew ?_) | (with_reducible refine G.alloc ?_ _) | (with_reducible refine G.setCell ?_ (by first | (with_reducible exact Nat.le_refl _) | (simp; done) | (simp; omega) | omega) _) | (with_reducible refine G.trans ?_ (by assumption))))⟩
      unfold InsR
      rw [if_pos (by rw [hE.out]; exact HE0.out), HN.out]
      refine ⟨p, cap, rfl, ?_⟩
      rcases HSH.out with hz | ⟨rfl, _, _⟩
      · exact .inl (by rw [hz]; rfl)
      · rcases HW2.out with hz | h
        · exact .inl (by rw [hz]; rfl)
        · exact TusAt.later h.tus (by (repeat' (first | (with_reducible exact G.refl _) | (with_reducible assumption) | (with_reducible refine G.drewN ?_ _) | (with_reducible refine G.drew ?_) | (with_reducible refine G.alloc ?_ _) | (with_reducible refine G.setCell ?_ (by first | (with_reducible exact Nat.le_refl _) | (simp; done) | (simp; omega) | omega) _) | (with_reducible refine G.trans ?_ (by assumption)))))
end Go.Proofs.Ytabaiklagobimaa
