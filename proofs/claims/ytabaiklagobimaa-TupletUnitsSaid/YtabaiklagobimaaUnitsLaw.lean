/- TupletUnits: for any tuplets and written lengths (up to 20 tuplets and 130 events), Units agrees with the definition, and the lengths of the events in an outermost tuplet add up to what its unit asks; the arguments read as before; no further condition. -/
import Derived.Test.YtabaiklagobimaaRows
import Derived.Test.YtabaiklagobimaaT24
import Derived.Test.YtabaiklagobimaaLaid
namespace Go.Proofs.Ytabaiklagobimaa
open Go.RowKit Go.ChangeShapes Go.WideShapes
attribute [local go_sem] World.cell?_alloc_some

set_option maxRecDepth 100000 in
set_option maxHeartbeats 25600000 in
theorem units_walk (a : Option Addr) (l0 : List Tu) (c : Nat) (b : Option Addr) (r0 : List Int) (d : Nat)  (w : World) (hc : l0.length ≤ c) (_ : c ≤ maxLen) (h1 : TusAt w a l0) (_ : a = none → c = 0) (hwf : ∀ n ∈ l0, (Lit.int .i64 n.c).wf = true) (hd : r0.length ≤ d) (_ : d ≤ maxLen) (h2 : IntsAt w b r0) (_ : b = none → d = 0)  :
    Calls Try.prog 10 #[.slice a l0.length c, .slice b r0.length d] w fun x w' => x = .returned (.bool true) ∧ G w w' := by
  by_cases k20 : (l0.length : Int) ≤ 20
  · by_cases k130 : (r0.length : Int) ≤ 130
    · have H1 := Lib.hid h1
      have HC := Lib.hid (cb_of hwf)
      have HN := Lib.hid (show l0.length = l0.length from rfl)
      have HK := Lib.hid (show l0.length ≤ 20 by omega)
      have m3 : (l0.length : Int) ≤ (c : Int) := by omega
      have m5 : l0.length ≤ c := by omega
      generalize l0 = l at *
      obtain ⟨n, hn⟩ : ∃ z : Nat, Hid (l.length = z) := ⟨_, rfl⟩
      rw [hn.out] at HK k20 m3 m5 ⊢
      clear HN h1 hwf hc
      have HN := hn
      clear hn
      have HNC := Lib.hid m5
      have H2 := Lib.hid h2
      have HM2 := Lib.hid (show r0.length ≤ 1000 by omega)
      have u3 : (r0.length : Int) ≤ (d : Int) := by omega
      have u5 : r0.length ≤ d := by omega
      generalize r0 = r at *
      obtain ⟨m, hm⟩ : ∃ z : Nat, Hid (r.length = z) := ⟨_, rfl⟩
      rw [hm.out] at HM2 k130 u3 u5 ⊢
      clear h2 hd
      have HM := hm
      clear hm
      go_enter Try.func10, Try.ntmps10
      go_wp2_with fail
      go_big_region
      all_goals
        go_wp2_with fail
        refine (to_any a l n c _ HN.out HK.out (H1.out.later (by (repeat' (first | (with_reducible exact G.refl _) | (with_reducible assumption) | (with_reducible refine G.drewN ?_ _) | (with_reducible refine G.drew ?_) | (with_reducible refine G.alloc ?_ _) | (with_reducible refine G.setCell ?_ (by first | (with_reducible exact Nat.le_refl _) | (simp; done) | (simp; omega) | omega) _) | (with_reducible refine G.trans ?_ (by assumption))))))).mono ?_
        rintro x w1 ⟨v2, rfl, hR, hG1⟩
        have g1 : G w w1 := G.trans (by (repeat' (first | (with_reducible exact G.refl _) | (with_reducible refine G.drewN ?_ _) | (with_reducible refine G.drew ?_) | (with_reducible refine G.alloc ?_ _)))) hG1
        obtain ⟨a2, c2, rfl, hT2⟩ := hR.tus
        rw [HN.out]
        have H3 := Lib.hid hT2
        clear hR hT2
        go_wp2_with fail
        refine (Units_any a b l r n c m d _ HN.out HNC.out HM.out HM2.out (H1.out.later (g1.trans (by (repeat' (first | (with_reducible exact G.refl _) | (with_reducible assumption) | (with_reducible refine G.drewN ?_ _) | (with_reducible refine G.drew ?_) | (with_reducible refine G.alloc ?_ _) | (with_reducible refine G.setCell ?_ (by first | (with_reducible exact Nat.le_refl _) | (simp; done) | (simp; omega) | omega) _) | (with_reducible refine G.trans ?_ (by assumption))))))) HC.out (H2.out.later (g1.trans (by (repeat' (first | (with_reducible exact G.refl _) | (with_reducible assumption) | (with_reducible refine G.drewN ?_ _) | (with_reducible refine G.drew ?_) | (with_reducible refine G.alloc ?_ _) | (with_reducible refine G.setCell ?_ (by first | (with_reducible exact Nat.le_refl _) | (simp; done) | (simp; omega) | omega) _) | (with_reducible refine G.trans ?_ (by assumption)))))))).mono ?_
        rintro e w2 ⟨hD, hG2⟩
        have g2 : G w1 w2 := G.trans (by (repeat' (first | (with_reducible exact G.refl _) | (with_reducible refine G.drewN ?_ _) | (with_reducible refine G.drew ?_) | (with_reducible refine G.alloc ?_ _)))) hG2
        rcases hD with ⟨hk, rfl⟩ | ⟨hk, hua0, g, rfl, hcell0⟩ | ⟨hk, hun0, rfl⟩
        · obtain ⟨E, hE⟩ : ∃ z : Int, Hid (lensT l r = z) := ⟨_, rfl⟩
          have HNK := Lib.hid hk
          rw [hE.out] at hk ⊢
          have e3 : (E == 0) = false := beq_false_of_ne hk
          have e4 : (E != 0) = true := by simp [bne, e3]
          clear hk
          go_wp2_with fail
          refine (rLengths_any a2 b l r n c2 m d _ HN.out HM.out HM2.out (H3.out.later (g2.trans (by (repeat' (first | (with_reducible exact G.refl _) | (with_reducible assumption) | (with_reducible refine G.drewN ?_ _) | (with_reducible refine G.drew ?_) | (with_reducible refine G.alloc ?_ _) | (with_reducible refine G.setCell ?_ (by first | (with_reducible exact Nat.le_refl _) | (simp; done) | (simp; omega) | omega) _) | (with_reducible refine G.trans ?_ (by assumption))))))) (H2.out.later (g1.trans (g2.trans (by (repeat' (first | (with_reducible exact G.refl _) | (with_reducible assumption) | (with_reducible refine G.drewN ?_ _) | (with_reducible refine G.drew ?_) | (with_reducible refine G.alloc ?_ _) | (with_reducible refine G.setCell ?_ (by first | (with_reducible exact Nat.le_refl _) | (simp; done) | (simp; omega) | omega) _) | (with_reducible refine G.trans ?_ (by assumption))))))))).mono ?_
          rintro e w3 ⟨v4, rfl, hQ4, hG3⟩
          have g3 : G w1 w3 := g2.trans (G.trans (by (repeat' (first | (with_reducible exact G.refl _) | (with_reducible refine G.drewN ?_ _) | (with_reducible refine G.drew ?_) | (with_reducible refine G.alloc ?_ _)))) hG3)
          unfold LensQ at hQ4
          rw [if_neg HNK.out] at hQ4
          subst hQ4
          rw [hE.out]
          go_wp2_with fail
          refine (known_any _).mono ?_
          rintro x w4 ⟨rfl, hG4⟩
          have g4 : G w1 w4 := g3.trans (G.trans (by (repeat' (first | (with_reducible exact G.refl _) | (with_reducible refine G.drewN ?_ _) | (with_reducible refine G.drew ?_) | (with_reducible refine G.alloc ?_ _)))) hG4)
          go_wp2_with fail
          go_ret
          exact ⟨by first | rfl | simp, g1.trans (g4.trans (by (repeat' (first | (with_reducible exact G.refl _) | (with_reducible assumption) | (with_reducible refine G.drewN ?_ _) | (with_reducible refine G.drew ?_) | (with_reducible refine G.alloc ?_ _) | (with_reducible refine G.setCell ?_ (by first | (with_reducible exact Nat.le_refl _) | (simp; done) | (simp; omega) | omega) _) | (with_reducible refine G.trans ?_ (by assumption))))))⟩
        · have hua := Lib.hid hua0
          have hcell := Lib.hid hcell0
          clear hua0 hcell0
          have HK0 := Lib.hid hk
          have HCK := Lib.hid (show ckT m l = 0 by have := (lensT_ok hk).1; rwa [HM.out] at this)
          have HIN := Lib.hid (fun (i : Nat) x (h : r[i]? = some x) => lensT_in hk h)
          clear hk
          go_wp2_with fail
          refine (rLengths_any a2 b l r n c2 m d _ HN.out HM.out HM2.out (H3.out.later (g2.trans (by (repeat' (first | (with_reducible exact G.refl _) | (with_reducible assumption) | (with_reducible refine G.drewN ?_ _) | (with_reducible refine G.drew ?_) | (with_reducible refine G.alloc ?_ _) | (with_reducible refine G.setCell ?_ (by first | (with_reducible exact Nat.le_refl _) | (simp; done) | (simp; omega) | omega) _) | (with_reducible refine G.trans ?_ (by assumption))))))) (H2.out.later (g1.trans (g2.trans (by (repeat' (first | (with_reducible exact G.refl _) | (with_reducible assumption) | (with_reducible refine G.drewN ?_ _) | (with_reducible refine G.drew ?_) | (with_reducible refine G.alloc ?_ _) | (with_reducible refine G.setCell ?_ (by first | (with_reducible exact Nat.le_refl _) | (simp; done) | (simp; omega) | omega) _) | (with_reducible refine G.trans ?_ (by assumption))))))))).mono ?_
          rintro e w3 ⟨v4, rfl, hQ4, hG3⟩
          have g23 : G w2 w3 := G.trans (by (repeat' (first | (with_reducible exact G.refl _) | (with_reducible refine G.drewN ?_ _) | (with_reducible refine G.drew ?_) | (with_reducible refine G.alloc ?_ _)))) hG3
          unfold LensQ at hQ4
          rw [if_pos HK0.out] at hQ4
          obtain ⟨pb, pd, rfl, hIB⟩ := hQ4
          rw [HK0.out, HM.out]
          go_wp2_with fail
          refine (known_any _).mono ?_
          rintro x w4 ⟨rfl, hG4⟩
          have g34 : G w3 w4 := G.trans (by (repeat' (first | (with_reducible exact G.refl _) | (with_reducible refine G.drewN ?_ _) | (with_reducible refine G.drew ?_) | (with_reducible refine G.alloc ?_ _)))) hG4
          have g24 : G w2 w4 := g23.trans g34
          have g4 : G w1 w4 := g2.trans g24
          have HIB := Lib.hid (hIB.later g34)
          clear hIB hG3 hG4
          have HLL := Lib.hid (show (lens l 0 r).length = m by rw [lens_len]; exact HM.out)
          have HRG := Lib.hid (fun (j : Nat) (t : Tu) (h : l[j]? = some t) => show 0 ≤ t.f ∧ 1 ≤ t.c ∧ t.f + t.c ≤ (m : Int) ∧ Rt t.n by
            have hone := (ckT_ok HCK.out).2.2.2.1 t (List.mem_of_getElem? h)
            unfold InR at hone
            exact ⟨hone.2.1, hone.1, by omega, hone.2.2.2.2.1⟩)
          obtain ⟨i0, hi0, hz0, hz1, hz2⟩ := info_parts' iInfo
          go_wp2_with fail
          go_loopg [10, 11] n (fun q y z wr => ∃ (i : Nat) (v : Value) (Us : List Int), v = y ∧ z = .int .i64 i ∧ q = n - i ∧ i ≤ n ∧ Hid (Us.length = i) ∧ Hid (∀ j t, j < i → l[j]? = some t → UK t (l.drop (j + 1)) r ∧ Us[j]? = some (lgI l r t j)) ∧ Hid (Row inE 3 1 w4.heap.size wr v Us) ∧ G w4 wr)
          case atStart => exact ⟨0, _, [], rfl, rfl, by omega, by omega, Lib.hid rfl, Lib.hid (fun j t h => by omega), Lib.hid (Row.nil (enc := inE) w4), by (repeat' (first | (with_reducible exact G.refl _) | (with_reducible assumption) | (with_reducible refine G.drewN ?_ _) | (with_reducible refine G.drew ?_) | (with_reducible refine G.alloc ?_ _) | (with_reducible refine G.setCell ?_ (by first | (with_reducible exact Nat.le_refl _) | (simp; done) | (simp; omega) | omega) _) | (with_reducible refine G.trans ?_ (by assumption))))⟩
          case round =>
            obtain ⟨i, v, Us, rfl, rfl, hq, hi', hUL, hA, hR, gr⟩ := hrel
            have HQ := Lib.hid hq
            clear hq
            by_cases hin : i < n
            · obtain ⟨⟨f, cc, aa, nn⟩, hp⟩ : ∃ z, l[i]? = some z := ⟨l[i]'(by have := HN.out; omega), List.getElem?_eq_getElem (by have := HN.out; omega)⟩
              have HP := Lib.hid hp
              have b1 : (0 : Int) ≤ (i : Int) := by omega
              have b2 : (i : Int) < (n : Int) := by omega
              have q1 := IntWalk.i64_in ((i : Int) + 1) (by have := HK.out; omega)
              have HU := Lib.hid (hua.out i _ hp)
              clear hp
              go_wp2_with fail
              refine (rUnit_any a2 b l r n c2 m d i f cc aa nn _ HN.out HK.out HM.out HM2.out (H3.out.later (g4.trans (gr.trans (by (repeat' (first | (with_reducible exact G.refl _) | (with_reducible assumption) | (with_reducible refine G.drewN ?_ _) | (with_reducible refine G.drew ?_) | (with_reducible refine G.alloc ?_ _) | (with_reducible refine G.setCell ?_ (by first | (with_reducible exact Nat.le_refl _) | (simp; done) | (simp; omega) | omega) _) | (with_reducible refine G.trans ?_ (by assumption)))))))) (H2.out.later (g1.trans (g4.trans (gr.trans (by (repeat' (first | (with_reducible exact G.refl _) | (with_reducible assumption) | (with_reducible refine G.drewN ?_ _) | (with_reducible refine G.drew ?_) | (with_reducible refine G.alloc ?_ _) | (with_reducible refine G.setCell ?_ (by first | (with_reducible exact Nat.le_refl _) | (simp; done) | (simp; omega) | omega) _) | (with_reducible refine G.trans ?_ (by assumption))))))))) HCK.out HIN.out HP.out).mono ?_
              rintro x w5 ⟨hD, hG5⟩
              rcases hD with ⟨_, rfl⟩ | ⟨hno, _⟩
              rotate_left
              · exact absurd HU.out hno
              have g5 : G wr w5 := G.trans (by (repeat' (first | (with_reducible exact G.refl _) | (with_reducible refine G.drewN ?_ _) | (with_reducible refine G.drew ?_) | (with_reducible refine G.alloc ?_ _)))) hG5
              obtain ⟨Y, hY⟩ : ∃ z : Int, Hid (lgI l r ⟨f, cc, aa, nn⟩ i = z) := ⟨_, rfl⟩
              rw [hY.out]
              go_wp2_with (at_builtin; refine wpList_append_own _ rfl _ _ 40 rfl w4.heap.size 3 i0 (.int .i64 0) 1 8 Try.underlying40 hi0 hz0 hz1 hz2 rfl (by decide) v Us.length (Us.flatMap inE) rfl (hR.out.later (show G wr _ by (repeat' (first | (with_reducible exact G.refl _) | (with_reducible assumption) | (with_reducible refine G.drewN ?_ _) | (with_reducible refine G.drew ?_) | (with_reducible refine G.alloc ?_ _) | (with_reducible refine G.setCell ?_ (by first | (with_reducible exact Nat.le_refl _) | (simp; done) | (simp; omega) | omega) _) | (with_reducible refine G.trans ?_ (by assumption)))))) ⟨w5.heap.size, 0, none⟩ 1 1 [.int .i64 Y] rfl rfl (new_add _ _ [.int .i64 Y] _ (by simp [go_sem])) (by simp [Value.oneCell']) (by unfold maxLen; rw [hUL.out]; have := HK.out; omega) (by rw [hUL.out]; have := HK.out; omega) (by have := gr.size; have := g5.size; simp [go_sem]; omega) ?_; intro v' w6 hown' hgrow _)
              have RN := Lib.hid (Row.more (enc := inE) (M := Us) (x := Y) hown')
              have gN : G w4 w6 := Below.grown (B := w4.heap.size) (show G w4 _ from gr.trans (g5.trans (by (repeat' (first | (with_reducible exact G.refl _) | (with_reducible assumption) | (with_reducible refine G.drewN ?_ _) | (with_reducible refine G.drew ?_) | (with_reducible refine G.alloc ?_ _) | (with_reducible refine G.setCell ?_ (by first | (with_reducible exact Nat.le_refl _) | (simp; done) | (simp; omega) | omega) _) | (with_reducible refine G.trans ?_ (by assumption))))))) hgrow (by have := gr.size; have := g5.size; simp [go_sem]; omega) (fun k hk => hR.out.own k hk)
              go_roundg (n - (i + 1))
              case measure => have := HQ.out; omega
              case rel => exact ⟨i + 1, v', Us ++ [Y], rfl, by first | rfl | go_num, rfl, by omega, Lib.hid (by rw [List.length_append, hUL.out]; rfl), Lib.hid (fun j t hj hjt => by
                by_cases e : j = i
                · subst e
                  rw [HP.out] at hjt
                  obtain rfl := Option.some.inj hjt
                  exact ⟨HU.out, by rw [List.getElem?_append_right (by rw [hUL.out]; exact Nat.le_refl _), hUL.out, Nat.sub_self, hY.out]; rfl⟩
                · have h := hA.out j t (by omega) hjt
                  exact ⟨h.1, by rw [List.getElem?_append_left (by rw [hUL.out]; omega)]; exact h.2⟩), Lib.hid RN.out, gN⟩
            · have hii : i = n := by omega
              obtain ⟨a3, c3, rfl, hI3⟩ := hR.out.ints
              have HUL := Lib.hid (show Us.length = n by rw [hUL.out, hii])
              have HUA := Lib.hid (fun (j : Nat) (t : Tu) (h : l[j]? = some t) => (hA.out j t (by have := (List.getElem?_eq_some_iff.1 h).1; have := HN.out; omega) h).2)
              rw [HUL.out]
              have HI3 := Lib.hid hI3
              have hji := hii.symm
              clear hI3 hR hA hin
              subst hji
              clear hUL
              go_wp2_with fail
              go_loopg [14] n (fun q x wr2 => ∃ i : Nat, x = .int .i64 i ∧ q = n - i ∧ i ≤ n ∧ G wr wr2)
              case atStart => exact ⟨0, rfl, by omega, by omega, by (repeat' (first | (with_reducible exact G.refl _) | (with_reducible assumption) | (with_reducible refine G.drewN ?_ _) | (with_reducible refine G.drew ?_) | (with_reducible refine G.alloc ?_ _) | (with_reducible refine G.setCell ?_ (by first | (with_reducible exact Nat.le_refl _) | (simp; done) | (simp; omega) | omega) _) | (with_reducible refine G.trans ?_ (by assumption))))⟩
              case round =>
                obtain ⟨j, rfl, hq2, hj, gr2⟩ := hrel
                have HQ2 := Lib.hid hq2
                clear hq2
                by_cases hjn : j < n
                · obtain ⟨t, hp⟩ : ∃ z, l[j]? = some z := ⟨l[j]'(by have := HN.out; omega), List.getElem?_eq_getElem (by have := HN.out; omega)⟩
                  have hx := HUA.out j t hp
                  rcases HI3.out with hz | ⟨b7, o7, rfl, f7⟩
                  · rw [hz] at hx; simp at hx
                  have y0 := (g24.trans (gr.trans gr2)).at (hcell.out j t hp)
                  have y1 := gr2.at (f7 j _ hx)
                  obtain ⟨Y, hY⟩ : ∃ z : Int, Hid (lgI l r t j = z) := ⟨_, rfl⟩
                  rw [hY.out] at y0 y1
                  have b1 : (0 : Int) ≤ (j : Int) := by omega
                  have b2 : (j : Int) < (n : Int) := by omega
                  have q1 := IntWalk.i64_in ((j : Int) + 1) (by have := HK.out; omega)
                  clear f7 hx hp
                  go_wp2_with fail
                  go_big_region
                  all_goals
                    go_wp2_with fail
                    go_roundg (n - (j + 1))
                    case measure => have := HQ2.out; omega
                    case rel => exact ⟨j + 1, by go_num, rfl, by omega, by (repeat' (first | (with_reducible exact G.refl _) | (with_reducible assumption) | (with_reducible refine G.drewN ?_ _) | (with_reducible refine G.drew ?_) | (with_reducible refine G.alloc ?_ _) | (with_reducible refine G.setCell ?_ (by first | (with_reducible exact Nat.le_refl _) | (simp; done) | (simp; omega) | omega) _) | (with_reducible refine G.trans ?_ (by assumption))))⟩
                · have b2 : ¬ (j : Int) < (n : Int) := by omega
                  go_wp2_with fail
                  go_loopg [15] n (fun q x wr3 => ∃ i : Nat, x = .int .i64 i ∧ q = n - i ∧ i ≤ n ∧ G wr wr3)
                  case atStart => exact ⟨0, rfl, by omega, by omega, by (repeat' (first | (with_reducible exact G.refl _) | (with_reducible assumption) | (with_reducible refine G.drewN ?_ _) | (with_reducible refine G.drew ?_) | (with_reducible refine G.alloc ?_ _) | (with_reducible refine G.setCell ?_ (by first | (with_reducible exact Nat.le_refl _) | (simp; done) | (simp; omega) | omega) _) | (with_reducible refine G.trans ?_ (by assumption))))⟩
                  case round =>
                    obtain ⟨k, rfl, hq3, hk', gr3⟩ := hrel
                    have HQ3 := Lib.hid hq3
                    clear hq3 b2
                    by_cases hkn : k < n
                    · obtain ⟨⟨f, cc, aa, nn⟩, hp⟩ : ∃ z, l[k]? = some z := ⟨l[k]'(by have := HN.out; omega), List.getElem?_eq_getElem (by have := HN.out; omega)⟩
                      rcases H3.out with hz | ⟨b3', o3, rfl, f3⟩
                      · rw [hz] at hp; simp at hp
                      have HP := Lib.hid hp
                      have X3 := Lib.hid (f3 k _ hp)
                      have HR1 := Lib.hid (show 0 ≤ f ∧ 1 ≤ cc ∧ f + cc ≤ (m : Int) ∧ Rt nn from HRG.out k _ hp)
                      have b3 : (0 : Int) ≤ (k : Int) := by omega
                      have b4 : (k : Int) < (n : Int) := by omega
                      go_wp2_with fail
                      go_loopg [16, 17] k (fun q x y wr4 => ∃ (j : Nat) (B : Bool), x = .bool B ∧ y = .int .i64 j ∧ q = k - j ∧ j ≤ k ∧ Hid (B = true ↔ ∀ u, u ∈ l.take j → ¬ Wi ⟨f, cc, aa, nn⟩ u) ∧ G wr wr4)
                      case atStart => exact ⟨0, true, rfl, rfl, by omega, by omega, Lib.hid ⟨fun _ u hu => by simp at hu, fun _ => rfl⟩, by (repeat' (first | (with_reducible exact G.refl _) | (with_reducible assumption) | (with_reducible refine G.drewN ?_ _) | (with_reducible refine G.drew ?_) | (with_reducible refine G.alloc ?_ _) | (with_reducible refine G.setCell ?_ (by first | (with_reducible exact Nat.le_refl _) | (simp; done) | (simp; omega) | omega) _) | (with_reducible refine G.trans ?_ (by assumption))))⟩
                      case round =>
                        obtain ⟨j, B, rfl, rfl, hq4, hj4, HB, gr4⟩ := hrel
                        have HQ4 := Lib.hid hq4
                        clear hq4
                        by_cases hjk : j < k
                        · obtain ⟨⟨f', c', a', n'⟩, hp2⟩ : ∃ z, l[j]? = some z := ⟨l[j]'(by have := HN.out; omega), List.getElem?_eq_getElem (by have := HN.out; omega)⟩
                          have X3 := Lib.hid (f3 k _ hp)
                          have X4 := Lib.hid (f3 j _ hp2)
                          have gx := g4.trans (gr.trans (gr2.trans (gr3.trans gr4)))
                          obtain ⟨x0, x1, x2, x3⟩ := X3.out.later gx
                          obtain ⟨y0, y1, y2, y3⟩ := X4.out.later gx
                          dsimp only at x0 x1 x2 x3 y0 y1 y2 y3
                          have HTK := Lib.hid (show l.take (j + 1) = l.take j ++ [⟨f', c', a', n'⟩] by rw [List.take_add_one, hp2]; rfl)
                          have HR1 := Lib.hid (HRG.out k _ hp)
                          have HR2 := Lib.hid (HRG.out j _ hp2)
                          have b5 : (0 : Int) ≤ (j : Int) := by omega
                          have b6 : (j : Int) < (n : Int) := by omega
                          have b7 : (j : Int) < (k : Int) := by omega
                          have q2 := IntWalk.i64_in ((j : Int) + 1) (by have := HK.out; omega)
                          have HJK := Lib.hid hjk
                          clear hp2 gx hjk
                          cases B with
                          | false =>
                            go_wp2_with fail
                            go_big_region
                            all_goals
                              go_wp2_with fail
                              go_roundg (k - (j + 1))
                              case measure => have := HQ4.out; have := HJK.out; omega
                              case rel => exact ⟨j + 1, false, rfl, by go_num, rfl, by have := HJK.out; omega, Lib.hid ⟨fun h => (by cases h), fun h => HB.out.2 (fun u hu => h u (by rw [HTK.out]; exact List.mem_append_left _ hu))⟩, gr4.trans (by (repeat' (first | (with_reducible exact G.refl _) | (with_reducible assumption) | (with_reducible refine G.drewN ?_ _) | (with_reducible refine G.drew ?_) | (with_reducible refine G.alloc ?_ _) | (with_reducible refine G.setCell ?_ (by first | (with_reducible exact Nat.le_refl _) | (simp; done) | (simp; omega) | omega) _) | (with_reducible refine G.trans ?_ (by assumption)))))⟩
                          | true =>
                            by_cases hw : Wi ⟨f, cc, aa, nn⟩ ⟨f', c', a', n'⟩
                            · have HW := Lib.hid hw
                              clear hw
                              go_wp2_with fail
                              go_region_held3 (fun w' => w'.cell? ⟨b3', o3 + k * 4, none⟩ = some (.int .i64 f) ∧ w'.cell? ⟨b3', o3 + k * 4 + 1, none⟩ = some (.int .i64 cc) ∧ w'.cell? ⟨b3', o3 + k * 4 + 2, none⟩ = some (.int .i64 aa) ∧ w'.cell? ⟨b3', o3 + k * 4 + 3, none⟩ = some (.int .i64 nn) ∧ w'.cell? ⟨b3', o3 + j * 4, none⟩ = some (.int .i64 f') ∧ w'.cell? ⟨b3', o3 + j * 4 + 1, none⟩ = some (.int .i64 c') ∧ w'.cell? ⟨b3', o3 + j * 4 + 2, none⟩ = some (.int .i64 a') ∧ w'.cell? ⟨b3', o3 + j * 4 + 3, none⟩ = some (.int .i64 n'))
                                (first | (with_reducible assumption) | ((try dsimp only); (repeat' (with_reducible apply And.intro)) <;> go_simp))
                                (first | (go_at_call 31; refine (rWithin_any _ _ _ _ _ _ _ _ _ (by have := HR1.out; have := HM2.out; omega) (by have := HR2.out; have := HM2.out; omega)).mono ?_; rintro x w5 ⟨rfl, hG5⟩; rw [decide_eq_true HW.out]; have gq : G wr w5 := G.trans (by (repeat' (first | (with_reducible exact G.refl _) | (with_reducible refine G.drewN ?_ _) | (with_reducible refine G.drew ?_) | (with_reducible refine G.alloc ?_ _)))) hG5; have X0 := gq.at x0; have X1 := gq.at x1; have X2 := gq.at x2; have X3 := gq.at x3; have Y0 := gq.at y0; have Y1 := gq.at y1; have Y2 := gq.at y2; have Y3 := gq.at y3))
                              all_goals
                                go_wp2_with fail
                                go_roundg (k - (j + 1))
                                case measure => have := HQ4.out; have := HJK.out; omega
                                case rel => exact ⟨j + 1, false, rfl, by go_num, rfl, by have := HJK.out; omega, Lib.hid ⟨fun h => (by cases h), fun h => absurd HW.out (h _ (by rw [HTK.out]; exact List.mem_append_right _ (List.mem_singleton.2 rfl)))⟩, gr4.trans (gq.trans (by (repeat' (first | (with_reducible exact G.refl _) | (with_reducible assumption) | (with_reducible refine G.drewN ?_ _) | (with_reducible refine G.drew ?_) | (with_reducible refine G.alloc ?_ _) | (with_reducible refine G.setCell ?_ (by first | (with_reducible exact Nat.le_refl _) | (simp; done) | (simp; omega) | omega) _) | (with_reducible refine G.trans ?_ (by assumption))))))⟩
                            · have HW := Lib.hid hw
                              clear hw
                              go_wp2_with fail
                              go_region_held3 (fun w' => w'.cell? ⟨b3', o3 + k * 4, none⟩ = some (.int .i64 f) ∧ w'.cell? ⟨b3', o3 + k * 4 + 1, none⟩ = some (.int .i64 cc) ∧ w'.cell? ⟨b3', o3 + k * 4 + 2, none⟩ = some (.int .i64 aa) ∧ w'.cell? ⟨b3', o3 + k * 4 + 3, none⟩ = some (.int .i64 nn) ∧ w'.cell? ⟨b3', o3 + j * 4, none⟩ = some (.int .i64 f') ∧ w'.cell? ⟨b3', o3 + j * 4 + 1, none⟩ = some (.int .i64 c') ∧ w'.cell? ⟨b3', o3 + j * 4 + 2, none⟩ = some (.int .i64 a') ∧ w'.cell? ⟨b3', o3 + j * 4 + 3, none⟩ = some (.int .i64 n'))
                                (first | (with_reducible assumption) | ((try dsimp only); (repeat' (with_reducible apply And.intro)) <;> go_simp))
                                (first | (go_at_call 31; refine (rWithin_any _ _ _ _ _ _ _ _ _ (by have := HR1.out; have := HM2.out; omega) (by have := HR2.out; have := HM2.out; omega)).mono ?_; rintro x w5 ⟨rfl, hG5⟩; rw [decide_eq_false HW.out]; have gq : G wr w5 := G.trans (by (repeat' (first | (with_reducible exact G.refl _) | (with_reducible refine G.drewN ?_ _) | (with_reducible refine G.drew ?_) | (with_reducible refine G.alloc ?_ _)))) hG5; have X0 := gq.at x0; have X1 := gq.at x1; have X2 := gq.at x2; have X3 := gq.at x3; have Y0 := gq.at y0; have Y1 := gq.at y1; have Y2 := gq.at y2; have Y3 := gq.at y3))
                              all_goals
                                go_wp2_with fail
                                go_roundg (k - (j + 1))
                                case measure => have := HQ4.out; have := HJK.out; omega
                                case rel => exact ⟨j + 1, true, rfl, by go_num, rfl, by have := HJK.out; omega, Lib.hid ⟨fun _ u hu => by
                                  rw [HTK.out] at hu
                                  rcases List.mem_append.1 hu with h | h
                                  · exact HB.out.1 (by first | rfl | trivial) u h
                                  · rw [List.mem_singleton.1 h]; exact HW.out, fun _ => rfl⟩, gr4.trans (gq.trans (by (repeat' (first | (with_reducible exact G.refl _) | (with_reducible assumption) | (with_reducible refine G.drewN ?_ _) | (with_reducible refine G.drew ?_) | (with_reducible refine G.alloc ?_ _) | (with_reducible refine G.setCell ?_ (by first | (with_reducible exact Nat.le_refl _) | (simp; done) | (simp; omega) | omega) _) | (with_reducible refine G.trans ?_ (by assumption))))))⟩
                        · have hjk2 : k = j := by omega
                          have b7 : ¬ (j : Int) < (k : Int) := by omega
                          subst hjk2
                          clear hp
                          go_wp2_with fail
                          go_loopg [18, 19] m (fun q x y wr5 => ∃ e : Nat, x = .int .i64 (sumU ⟨f, cc, aa, nn⟩ (gL l r) e) ∧ y = .int .i64 e ∧ q = m - e ∧ e ≤ m ∧ G wr wr5)
                          case atStart => exact ⟨0, rfl, rfl, by omega, by omega, by (repeat' (first | (with_reducible exact G.refl _) | (with_reducible assumption) | (with_reducible refine G.drewN ?_ _) | (with_reducible refine G.drew ?_) | (with_reducible refine G.alloc ?_ _) | (with_reducible refine G.setCell ?_ (by first | (with_reducible exact Nat.le_refl _) | (simp; done) | (simp; omega) | omega) _) | (with_reducible refine G.trans ?_ (by assumption))))⟩
                          case round =>
                            obtain ⟨e, rfl, rfl, hq5, he5, gr5⟩ := hrel
                            have HQ5 := Lib.hid hq5
                            clear hq5
                            by_cases hem : e < m
                            · obtain ⟨x, hx⟩ : ∃ z, (lens l 0 r)[e]? = some z := ⟨(lens l 0 r)[e]'(by have := HLL.out; omega), List.getElem?_eq_getElem (by have := HLL.out; omega)⟩
                              rcases HIB.out with hz | ⟨b9, o9, rfl, f9⟩
                              · rw [hz] at hx; simp at hx
                              have gx := gr.trans (gr2.trans (gr3.trans (gr4.trans gr5)))
                              have xr := gx.at (f9 e _ hx)
                              obtain ⟨x0, x1, x2, x3⟩ := X3.out.later (g4.trans gx)
                              dsimp only at x0 x1 x2 x3
                              have HGL := Lib.hid (gL_at hx)
                              have HSN := Lib.hid (show sumU ⟨f, cc, aa, nn⟩ (gL l r) (e + 1) = sumU ⟨f, cc, aa, nn⟩ (gL l r) e + (if InT ⟨f, cc, aa, nn⟩ e then gL l r e else 0) from rfl)
                              have hsb2 := sumL_bd (t := ⟨f, cc, aa, nn⟩) (l := l) (r := r) (ckT_fit HCK.out) (e + 1)
                              obtain ⟨S, hS⟩ : ∃ z : Int, Hid (sumU ⟨f, cc, aa, nn⟩ (gL l r) e = z) := ⟨_, rfl⟩
                              rw [hS.out] at HSN ⊢
                              have HSB := Lib.hid hsb2
                              have b5 : (0 : Int) ≤ (e : Int) := by omega
                              have b6 : (e : Int) < (m : Int) := by omega
                              have q2 := IntWalk.i64_in ((e : Int) + 1) (by have := HM2.out; omega)
                              have HEM := Lib.hid hem
                              clear f9 hx hsb2 gx hem
                              by_cases hit : InT ⟨f, cc, aa, nn⟩ e
                              · have HS2 := Lib.hid (show sumU ⟨f, cc, aa, nn⟩ (gL l r) (e + 1) = S + x by rw [HSN.out, if_pos hit, HGL.out])
                                have q3 := IntWalk.i64_in (S + x) (by
                                  have := HSB.out
                                  rw [HS2.out] at this
                                  have := HM2.out
                                  omega)
                                have HD := Lib.hid (decide_eq_true hit)
                                clear hit
                                go_wp2_with fail
                                refine (rIn_any f cc aa nn e _ (by have := HR1.out; have := HM2.out; omega) (by have := HR1.out; have := HM2.out; omega)).mono ?_
                                rintro y w6 ⟨rfl, hG6⟩
                                have g6 : G wr w6 := G.trans (by (repeat' (first | (with_reducible exact G.refl _) | (with_reducible refine G.drewN ?_ _) | (with_reducible refine G.drew ?_) | (with_reducible refine G.alloc ?_ _)))) hG6
                                replace xr := g6.at xr
                                rw [HD.out]
                                go_wp2_with fail
                                go_roundg (m - (e + 1))
                                case measure => have := HQ5.out; have := HEM.out; omega
                                case rel => exact ⟨e + 1, by rw [HS2.out], by go_num, rfl, by have := HEM.out; omega, gr5.trans (g6.trans (by (repeat' (first | (with_reducible exact G.refl _) | (with_reducible assumption) | (with_reducible refine G.drewN ?_ _) | (with_reducible refine G.drew ?_) | (with_reducible refine G.alloc ?_ _) | (with_reducible refine G.setCell ?_ (by first | (with_reducible exact Nat.le_refl _) | (simp; done) | (simp; omega) | omega) _) | (with_reducible refine G.trans ?_ (by assumption))))))⟩
                              · have HS2 := Lib.hid (show sumU ⟨f, cc, aa, nn⟩ (gL l r) (e + 1) = S by rw [HSN.out, if_neg hit, Int.add_zero])
                                have HD := Lib.hid (decide_eq_false hit)
                                clear hit
                                go_wp2_with fail
                                refine (rIn_any f cc aa nn e _ (by have := HR1.out; have := HM2.out; omega) (by have := HR1.out; have := HM2.out; omega)).mono ?_
                                rintro y w6 ⟨rfl, hG6⟩
                                have g6 : G wr w6 := G.trans (by (repeat' (first | (with_reducible exact G.refl _) | (with_reducible refine G.drewN ?_ _) | (with_reducible refine G.drew ?_) | (with_reducible refine G.alloc ?_ _)))) hG6
                                rw [HD.out]
                                go_wp2_with fail
                                go_roundg (m - (e + 1))
                                case measure => have := HQ5.out; have := HEM.out; omega
                                case rel => exact ⟨e + 1, by rw [HS2.out], by go_num, rfl, by have := HEM.out; omega, gr5.trans (g6.trans (by (repeat' (first | (with_reducible exact G.refl _) | (with_reducible assumption) | (with_reducible refine G.drewN ?_ _) | (with_reducible refine G.drew ?_) | (with_reducible refine G.alloc ?_ _) | (with_reducible refine G.setCell ?_ (by first | (with_reducible exact Nat.le_refl _) | (simp; done) | (simp; omega) | omega) _) | (with_reducible refine G.trans ?_ (by assumption))))))⟩
                            · have hee : e = m := by omega
                              have HEE := Lib.hid (show sumU ⟨f, cc, aa, nn⟩ (gL l r) e = sumU ⟨f, cc, aa, nn⟩ (gL l r) r.length by rw [HM.out, hee])
                              obtain ⟨S, hS⟩ : ∃ z : Int, Hid (sumU ⟨f, cc, aa, nn⟩ (gL l r) e = z) := ⟨_, rfl⟩
                              rw [hS.out]
                              have hje := hee.symm
                              subst hje
                              have q2 := IntWalk.i64_in ((k : Int) + 1) (by have := HK.out; omega)
                              clear hem
                              cases B with
                              | false =>
                                go_wp2_with fail
                                go_big_region
                                all_goals
                                  go_wp2_with fail
                                  go_roundg (n - (k + 1))
                                  case measure => have := HQ3.out; omega
                                  case rel => exact ⟨k + 1, by go_num, rfl, by omega, gr3.trans (gr4.trans (gr5.trans (by (repeat' (first | (with_reducible exact G.refl _) | (with_reducible assumption) | (with_reducible refine G.drewN ?_ _) | (with_reducible refine G.drew ?_) | (with_reducible refine G.alloc ?_ _) | (with_reducible refine G.setCell ?_ (by first | (with_reducible exact Nat.le_refl _) | (simp; done) | (simp; omega) | omega) _) | (with_reducible refine G.trans ?_ (by assumption)))))))⟩
                              | true =>
                                obtain ⟨kk, hkk, e1, e2⟩ := unit_sum HK0.out HP.out (HB.out.1 rfl) (hua.out k _ HP.out)
                                have gx := gr.trans (gr2.trans (gr3.trans (gr4.trans gr5)))
                                obtain ⟨x0, x1, x2, x3⟩ := X3.out.later (g4.trans gx)
                                dsimp only at x0 x1 x2 x3
                                have yk := (g24.trans gx).at (hcell.out k _ HP.out)
                                rw [e1] at yk
                                have hsz := sz_bd kk
                                have hpw := shr_pow kk hkk
                                have hmin : min kk 64 = kk := by omega
                                have j5 : (kk : Int) - 1 + 1 = (kk : Int) := by omega
                                have j4 := IntWalk.i64_in (kk : Int) (by omega)
                                have j3 := IntWalk.i64_in ((kk : Int) - 1 + 1) (by omega)
                                have hrn := HR1.out.2.2.2
                                obtain ⟨n0, n1⟩ := hrn
                                have p1 : sz kk * nn ≤ 3870720 * 32 := Int.mul_le_mul hsz.2 n1 (by omega) (by omega)
                                have p2 : 0 ≤ sz kk * nn := Int.mul_nonneg hsz.1 (by omega)
                                have q3 := IntWalk.i64_in (sz kk * nn) (by omega)
                                have q4 := IntWalk.wrap64_in (sz kk * nn) (by omega)
                                have q5 := IntWalk.i64_in (sz kk) (by omega)
                                have q6 := IntWalk.wrap64_in (sz kk) (by omega)
                                have hSV : S = sz kk * nn := by rw [← hS.out, HEE.out, e2]
                                have hs2 : (S == sz kk * nn) = true := by rw [hSV]; simp
                                have hs3 : (S != sz kk * nn) = false := by simp [bne, hs2]
                                have HSV := Lib.hid hSV
                                have HKK := Lib.hid (And.intro hkk hsz)
                                clear e1 e2 hkk hsz p1 p2 hSV gx
                                go_wp2_with fail
                                go_big_region
                                all_goals
                                  go_wp2_with fail
                                  go_roundg (n - (k + 1))
                                  case measure => have := HQ3.out; omega
                                  case rel => exact ⟨k + 1, by go_num, rfl, by omega, gr3.trans (gr4.trans (gr5.trans (by (repeat' (first | (with_reducible exact G.refl _) | (with_reducible assumption) | (with_reducible refine G.drewN ?_ _) | (with_reducible refine G.drew ?_) | (with_reducible refine G.alloc ?_ _) | (with_reducible refine G.setCell ?_ (by first | (with_reducible exact Nat.le_refl _) | (simp; done) | (simp; omega) | omega) _) | (with_reducible refine G.trans ?_ (by assumption)))))))⟩
                    · have b2 : ¬ (k : Int) < (n : Int) := by omega
                      go_wp2_with fail
                      go_ret
                      exact ⟨by first | rfl | simp, g1.trans (g4.trans (gr.trans (gr2.trans (gr3.trans (by (repeat' (first | (with_reducible exact G.refl _) | (with_reducible assumption) | (with_reducible refine G.drewN ?_ _) | (with_reducible refine G.drew ?_) | (with_reducible refine G.alloc ?_ _) | (with_reducible refine G.setCell ?_ (by first | (with_reducible exact Nat.le_refl _) | (simp; done) | (simp; omega) | omega) _) | (with_reducible refine G.trans ?_ (by assumption)))))))))⟩
        · have hun := Lib.hid hun0
          clear hun0
          have HK0 := Lib.hid hk
          have HCK := Lib.hid (show ckT m l = 0 by have := (lensT_ok hk).1; rwa [HM.out] at this)
          have HIN := Lib.hid (fun (i : Nat) x (h : r[i]? = some x) => lensT_in hk h)
          clear hk
          go_wp2_with fail
          refine (rLengths_any a2 b l r n c2 m d _ HN.out HM.out HM2.out (H3.out.later (g2.trans (by (repeat' (first | (with_reducible exact G.refl _) | (with_reducible assumption) | (with_reducible refine G.drewN ?_ _) | (with_reducible refine G.drew ?_) | (with_reducible refine G.alloc ?_ _) | (with_reducible refine G.setCell ?_ (by first | (with_reducible exact Nat.le_refl _) | (simp; done) | (simp; omega) | omega) _) | (with_reducible refine G.trans ?_ (by assumption))))))) (H2.out.later (g1.trans (g2.trans (by (repeat' (first | (with_reducible exact G.refl _) | (with_reducible assumption) | (with_reducible refine G.drewN ?_ _) | (with_reducible refine G.drew ?_) | (with_reducible refine G.alloc ?_ _) | (with_reducible refine G.setCell ?_ (by first | (with_reducible exact Nat.le_refl _) | (simp; done) | (simp; omega) | omega) _) | (with_reducible refine G.trans ?_ (by assumption))))))))).mono ?_
          rintro e w3 ⟨v4, rfl, hQ4, hG3⟩
          have g23 : G w2 w3 := G.trans (by (repeat' (first | (with_reducible exact G.refl _) | (with_reducible refine G.drewN ?_ _) | (with_reducible refine G.drew ?_) | (with_reducible refine G.alloc ?_ _)))) hG3
          unfold LensQ at hQ4
          rw [if_pos HK0.out] at hQ4
          obtain ⟨pb, pd, rfl, hIB⟩ := hQ4
          rw [HK0.out, HM.out]
          go_wp2_with fail
          refine (known_any _).mono ?_
          rintro x w4 ⟨rfl, hG4⟩
          have g34 : G w3 w4 := G.trans (by (repeat' (first | (with_reducible exact G.refl _) | (with_reducible refine G.drewN ?_ _) | (with_reducible refine G.drew ?_) | (with_reducible refine G.alloc ?_ _)))) hG4
          have g24 : G w2 w4 := g23.trans g34
          have g4 : G w1 w4 := g2.trans g24
          have HIB := Lib.hid (hIB.later g34)
          clear hIB hG3 hG4
          obtain ⟨i0, hi0, hz0, hz1, hz2⟩ := info_parts' iInfo
          go_wp2_with fail
          go_loopg [10, 11] n (fun q y z wr => ∃ (i : Nat) (v : Value) (Us : List Int), v = y ∧ z = .int .i64 i ∧ q = n - i ∧ i ≤ n ∧ Hid (Us.length = i) ∧ Hid (∀ j t, j < i → l[j]? = some t → UK t (l.drop (j + 1)) r ∧ Us[j]? = some (lgI l r t j)) ∧ Hid (Row inE 3 1 w4.heap.size wr v Us) ∧ G w4 wr)
          case atStart => exact ⟨0, _, [], rfl, rfl, by omega, by omega, Lib.hid rfl, Lib.hid (fun j t h => by omega), Lib.hid (Row.nil (enc := inE) w4), by (repeat' (first | (with_reducible exact G.refl _) | (with_reducible assumption) | (with_reducible refine G.drewN ?_ _) | (with_reducible refine G.drew ?_) | (with_reducible refine G.alloc ?_ _) | (with_reducible refine G.setCell ?_ (by first | (with_reducible exact Nat.le_refl _) | (simp; done) | (simp; omega) | omega) _) | (with_reducible refine G.trans ?_ (by assumption))))⟩
          case round =>
            obtain ⟨i, v, Us, rfl, rfl, hq, hi', hUL, hA, hR, gr⟩ := hrel
            have HQ := Lib.hid hq
            clear hq
            by_cases hin : i < n
            · obtain ⟨⟨f, cc, aa, nn⟩, hp⟩ : ∃ z, l[i]? = some z := ⟨l[i]'(by have := HN.out; omega), List.getElem?_eq_getElem (by have := HN.out; omega)⟩
              have HP := Lib.hid hp
              have b1 : (0 : Int) ≤ (i : Int) := by omega
              have b2 : (i : Int) < (n : Int) := by omega
              have q1 := IntWalk.i64_in ((i : Int) + 1) (by have := HK.out; omega)
              clear hp
              by_cases hu : UK ⟨f, cc, aa, nn⟩ (l.drop (i + 1)) r
              · have HU := Lib.hid hu
                clear hu
                go_wp2_with fail
                refine (rUnit_any a2 b l r n c2 m d i f cc aa nn _ HN.out HK.out HM.out HM2.out (H3.out.later (g4.trans (gr.trans (by (repeat' (first | (with_reducible exact G.refl _) | (with_reducible assumption) | (with_reducible refine G.drewN ?_ _) | (with_reducible refine G.drew ?_) | (with_reducible refine G.alloc ?_ _) | (with_reducible refine G.setCell ?_ (by first | (with_reducible exact Nat.le_refl _) | (simp; done) | (simp; omega) | omega) _) | (with_reducible refine G.trans ?_ (by assumption)))))))) (H2.out.later (g1.trans (g4.trans (gr.trans (by (repeat' (first | (with_reducible exact G.refl _) | (with_reducible assumption) | (with_reducible refine G.drewN ?_ _) | (with_reducible refine G.drew ?_) | (with_reducible refine G.alloc ?_ _) | (with_reducible refine G.setCell ?_ (by first | (with_reducible exact Nat.le_refl _) | (simp; done) | (simp; omega) | omega) _) | (with_reducible refine G.trans ?_ (by assumption))))))))) HCK.out HIN.out HP.out).mono ?_
                rintro x w5 ⟨hD, hG5⟩
                rcases hD with ⟨_, rfl⟩ | ⟨hno, _⟩
                rotate_left
                · exact absurd HU.out hno
                have g5 : G wr w5 := G.trans (by (repeat' (first | (with_reducible exact G.refl _) | (with_reducible refine G.drewN ?_ _) | (with_reducible refine G.drew ?_) | (with_reducible refine G.alloc ?_ _)))) hG5
                obtain ⟨Y, hY⟩ : ∃ z : Int, Hid (lgI l r ⟨f, cc, aa, nn⟩ i = z) := ⟨_, rfl⟩
                rw [hY.out]
                go_wp2_with (at_builtin; refine wpList_append_own _ rfl _ _ 40 rfl w4.heap.size 3 i0 (.int .i64 0) 1 8 Try.underlying40 hi0 hz0 hz1 hz2 rfl (by decide) v Us.length (Us.flatMap inE) rfl (hR.out.later (show G wr _ by (repeat' (first | (with_reducible exact G.refl _) | (with_reducible assumption) | (with_reducible refine G.drewN ?_ _) | (with_reducible refine G.drew ?_) | (with_reducible refine G.alloc ?_ _) | (with_reducible refine G.setCell ?_ (by first | (with_reducible exact Nat.le_refl _) | (simp; done) | (simp; omega) | omega) _) | (with_reducible refine G.trans ?_ (by assumption)))))) ⟨w5.heap.size, 0, none⟩ 1 1 [.int .i64 Y] rfl rfl (new_add _ _ [.int .i64 Y] _ (by simp [go_sem])) (by simp [Value.oneCell']) (by unfold maxLen; rw [hUL.out]; have := HK.out; omega) (by rw [hUL.out]; have := HK.out; omega) (by have := gr.size; have := g5.size; simp [go_sem]; omega) ?_; intro v' w6 hown' hgrow _)
                have RN := Lib.hid (Row.more (enc := inE) (M := Us) (x := Y) hown')
                have gN : G w4 w6 := Below.grown (B := w4.heap.size) (show G w4 _ from gr.trans (g5.trans (by (repeat' (first | (with_reducible exact G.refl _) | (with_reducible assumption) | (with_reducible refine G.drewN ?_ _) | (with_reducible refine G.drew ?_) | (with_reducible refine G.alloc ?_ _) | (with_reducible refine G.setCell ?_ (by first | (with_reducible exact Nat.le_refl _) | (simp; done) | (simp; omega) | omega) _) | (with_reducible refine G.trans ?_ (by assumption))))))) hgrow (by have := gr.size; have := g5.size; simp [go_sem]; omega) (fun k hk => hR.out.own k hk)
                go_roundg (n - (i + 1))
                case measure => have := HQ.out; omega
                case rel => exact ⟨i + 1, v', Us ++ [Y], rfl, by first | rfl | go_num, rfl, by omega, Lib.hid (by rw [List.length_append, hUL.out]; rfl), Lib.hid (fun j t hj hjt => by
                  by_cases e : j = i
                  · subst e
                    rw [HP.out] at hjt
                    obtain rfl := Option.some.inj hjt
                    exact ⟨HU.out, by rw [List.getElem?_append_right (by rw [hUL.out]; exact Nat.le_refl _), hUL.out, Nat.sub_self, hY.out]; rfl⟩
                  · have h := hA.out j t (by omega) hjt
                    exact ⟨h.1, by rw [List.getElem?_append_left (by rw [hUL.out]; omega)]; exact h.2⟩), Lib.hid RN.out, gN⟩
              · have HU := Lib.hid hu
                clear hu
                go_wp2_with fail
                refine (rUnit_any a2 b l r n c2 m d i f cc aa nn _ HN.out HK.out HM.out HM2.out (H3.out.later (g4.trans (gr.trans (by (repeat' (first | (with_reducible exact G.refl _) | (with_reducible assumption) | (with_reducible refine G.drewN ?_ _) | (with_reducible refine G.drew ?_) | (with_reducible refine G.alloc ?_ _) | (with_reducible refine G.setCell ?_ (by first | (with_reducible exact Nat.le_refl _) | (simp; done) | (simp; omega) | omega) _) | (with_reducible refine G.trans ?_ (by assumption)))))))) (H2.out.later (g1.trans (g4.trans (gr.trans (by (repeat' (first | (with_reducible exact G.refl _) | (with_reducible assumption) | (with_reducible refine G.drewN ?_ _) | (with_reducible refine G.drew ?_) | (with_reducible refine G.alloc ?_ _) | (with_reducible refine G.setCell ?_ (by first | (with_reducible exact Nat.le_refl _) | (simp; done) | (simp; omega) | omega) _) | (with_reducible refine G.trans ?_ (by assumption))))))))) HCK.out HIN.out HP.out).mono ?_
                rintro x w5 ⟨hD, hG5⟩
                rcases hD with ⟨hyes, _⟩ | ⟨_, rfl⟩
                · exact absurd hyes HU.out
                have g5 : G wr w5 := G.trans (by (repeat' (first | (with_reducible exact G.refl _) | (with_reducible refine G.drewN ?_ _) | (with_reducible refine G.drew ?_) | (with_reducible refine G.alloc ?_ _)))) hG5
                go_wp2_with fail
                go_ret
                exact ⟨by first | rfl | simp, g1.trans (g4.trans (gr.trans (g5.trans (by (repeat' (first | (with_reducible exact G.refl _) | (with_reducible assumption) | (with_reducible refine G.drewN ?_ _) | (with_reducible refine G.drew ?_) | (with_reducible refine G.alloc ?_ _) | (with_reducible refine G.setCell ?_ (by first | (with_reducible exact Nat.le_refl _) | (simp; done) | (simp; omega) | omega) _) | (with_reducible refine G.trans ?_ (by assumption))))))))⟩
            · exact absurd (show UKall l r from fun j t hjt => (hA.out j t (by have := (List.getElem?_eq_some_iff.1 hjt).1; have := HN.out; omega) hjt).1) hun.out
    · have H1 := Lib.hid h1
      have HC := Lib.hid (cb_of hwf)
      have HN := Lib.hid (show l0.length = l0.length from rfl)
      have HK := Lib.hid (show l0.length ≤ 20 by omega)
      have m3 : (l0.length : Int) ≤ (c : Int) := by omega
      have m5 : l0.length ≤ c := by omega
      generalize l0 = l at *
      obtain ⟨n, hn⟩ : ∃ z : Nat, Hid (l.length = z) := ⟨_, rfl⟩
      rw [hn.out] at HK k20 m3 m5 ⊢
      clear HN h1 hwf hc
      have HN := hn
      clear hn
      have HNC := Lib.hid m5
      have H2 := Lib.hid (h2.take 130)
      have HM := Lib.hid (show (r0.take 130).length = 130 by rw [List.length_take]; omega)
      have HM2 := Lib.hid (show 130 ≤ 1000 by omega)
      have u3 : (130 : Int) ≤ (d : Int) := by omega
      have u4 : 130 ≤ d := by omega
      generalize r0.take 130 = r at *
      clear h2 hd
      go_enter Try.func10, Try.ntmps10
      go_wp2_with fail
      go_big_region
      all_goals
        go_wp2_with fail
        refine (to_any a l n c _ HN.out HK.out (H1.out.later (by (repeat' (first | (with_reducible exact G.refl _) | (with_reducible assumption) | (with_reducible refine G.drewN ?_ _) | (with_reducible refine G.drew ?_) | (with_reducible refine G.alloc ?_ _) | (with_reducible refine G.setCell ?_ (by first | (with_reducible exact Nat.le_refl _) | (simp; done) | (simp; omega) | omega) _) | (with_reducible refine G.trans ?_ (by assumption))))))).mono ?_
        rintro x w1 ⟨v2, rfl, hR, hG1⟩
        have g1 : G w w1 := G.trans (by (repeat' (first | (with_reducible exact G.refl _) | (with_reducible refine G.drewN ?_ _) | (with_reducible refine G.drew ?_) | (with_reducible refine G.alloc ?_ _)))) hG1
        obtain ⟨a2, c2, rfl, hT2⟩ := hR.tus
        rw [HN.out]
        have H3 := Lib.hid hT2
        clear hR hT2
        go_wp2_with fail
        refine (Units_any a b l r n c 130 d _ HN.out HNC.out HM.out HM2.out (H1.out.later (g1.trans (by (repeat' (first | (with_reducible exact G.refl _) | (with_reducible assumption) | (with_reducible refine G.drewN ?_ _) | (with_reducible refine G.drew ?_) | (with_reducible refine G.alloc ?_ _) | (with_reducible refine G.setCell ?_ (by first | (with_reducible exact Nat.le_refl _) | (simp; done) | (simp; omega) | omega) _) | (with_reducible refine G.trans ?_ (by assumption))))))) HC.out (H2.out.later (g1.trans (by (repeat' (first | (with_reducible exact G.refl _) | (with_reducible assumption) | (with_reducible refine G.drewN ?_ _) | (with_reducible refine G.drew ?_) | (with_reducible refine G.alloc ?_ _) | (with_reducible refine G.setCell ?_ (by first | (with_reducible exact Nat.le_refl _) | (simp; done) | (simp; omega) | omega) _) | (with_reducible refine G.trans ?_ (by assumption)))))))).mono ?_
        rintro e w2 ⟨hD, hG2⟩
        have g2 : G w1 w2 := G.trans (by (repeat' (first | (with_reducible exact G.refl _) | (with_reducible refine G.drewN ?_ _) | (with_reducible refine G.drew ?_) | (with_reducible refine G.alloc ?_ _)))) hG2
        rcases hD with ⟨hk, rfl⟩ | ⟨hk, hua0, g, rfl, hcell0⟩ | ⟨hk, hun0, rfl⟩
        · obtain ⟨E, hE⟩ : ∃ z : Int, Hid (lensT l r = z) := ⟨_, rfl⟩
          have HNK := Lib.hid hk
          rw [hE.out] at hk ⊢
          have e3 : (E == 0) = false := beq_false_of_ne hk
          have e4 : (E != 0) = true := by simp [bne, e3]
          clear hk
          go_wp2_with fail
          refine (rLengths_any a2 b l r n c2 130 d _ HN.out HM.out HM2.out (H3.out.later (g2.trans (by (repeat' (first | (with_reducible exact G.refl _) | (with_reducible assumption) | (with_reducible refine G.drewN ?_ _) | (with_reducible refine G.drew ?_) | (with_reducible refine G.alloc ?_ _) | (with_reducible refine G.setCell ?_ (by first | (with_reducible exact Nat.le_refl _) | (simp; done) | (simp; omega) | omega) _) | (with_reducible refine G.trans ?_ (by assumption))))))) (H2.out.later (g1.trans (g2.trans (by (repeat' (first | (with_reducible exact G.refl _) | (with_reducible assumption) | (with_reducible refine G.drewN ?_ _) | (with_reducible refine G.drew ?_) | (with_reducible refine G.alloc ?_ _) | (with_reducible refine G.setCell ?_ (by first | (with_reducible exact Nat.le_refl _) | (simp; done) | (simp; omega) | omega) _) | (with_reducible refine G.trans ?_ (by assumption))))))))).mono ?_
          rintro e w3 ⟨v4, rfl, hQ4, hG3⟩
          have g3 : G w1 w3 := g2.trans (G.trans (by (repeat' (first | (with_reducible exact G.refl _) | (with_reducible refine G.drewN ?_ _) | (with_reducible refine G.drew ?_) | (with_reducible refine G.alloc ?_ _)))) hG3)
          unfold LensQ at hQ4
          rw [if_neg HNK.out] at hQ4
          subst hQ4
          rw [hE.out]
          go_wp2_with fail
          refine (known_any _).mono ?_
          rintro x w4 ⟨rfl, hG4⟩
          have g4 : G w1 w4 := g3.trans (G.trans (by (repeat' (first | (with_reducible exact G.refl _) | (with_reducible refine G.drewN ?_ _) | (with_reducible refine G.drew ?_) | (with_reducible refine G.alloc ?_ _)))) hG4)
          go_wp2_with fail
          go_ret
          exact ⟨by first | rfl | simp, g1.trans (g4.trans (by (repeat' (first | (with_reducible exact G.refl _) | (with_reducible assumption) | (with_reducible refine G.drewN ?_ _) | (with_reducible refine G.drew ?_) | (with_reducible refine G.alloc ?_ _) | (with_reducible refine G.setCell ?_ (by first | (with_reducible exact Nat.le_refl _) | (simp; done) | (simp; omega) | omega) _) | (with_reducible refine G.trans ?_ (by assumption))))))⟩
        · have hua := Lib.hid hua0
          have hcell := Lib.hid hcell0
          clear hua0 hcell0
          have HK0 := Lib.hid hk
          have HCK := Lib.hid (show ckT 130 l = 0 by have := (lensT_ok hk).1; rwa [HM.out] at this)
          have HIN := Lib.hid (fun (i : Nat) x (h : r[i]? = some x) => lensT_in hk h)
          clear hk
          go_wp2_with fail
          refine (rLengths_any a2 b l r n c2 130 d _ HN.out HM.out HM2.out (H3.out.later (g2.trans (by (repeat' (first | (with_reducible exact G.refl _) | (with_reducible assumption) | (with_reducible refine G.drewN ?_ _) | (with_reducible refine G.drew ?_) | (with_reducible refine G.alloc ?_ _) | (with_reducible refine G.setCell ?_ (by first | (with_reducible exact Nat.le_refl _) | (simp; done) | (simp; omega) | omega) _) | (with_reducible refine G.trans ?_ (by assumption))))))) (H2.out.later (g1.trans (g2.trans (by (repeat' (first | (with_reducible exact G.refl _) | (with_reducible assumption) | (with_reducible refine G.drewN ?_ _) | (with_reducible refine G.drew ?_) | (with_reducible refine G.alloc ?_ _) | (with_reducible refine G.setCell ?_ (by first | (with_reducible exact Nat.le_refl _) | (simp; done) | (simp; omega) | omega) _) | (with_reducible refine G.trans ?_ (by assumption))))))))).mono ?_
          rintro e w3 ⟨v4, rfl, hQ4, hG3⟩
          have g23 : G w2 w3 := G.trans (by (repeat' (first | (with_reducible exact G.refl _) | (with_reducible refine G.drewN ?_ _) | (with_reducible refine G.drew ?_) | (with_reducible refine G.alloc ?_ _)))) hG3
          unfold LensQ at hQ4
          rw [if_pos HK0.out] at hQ4
          obtain ⟨pb, pd, rfl, hIB⟩ := hQ4
          rw [HK0.out, HM.out]
          go_wp2_with fail
          refine (known_any _).mono ?_
          rintro x w4 ⟨rfl, hG4⟩
          have g34 : G w3 w4 := G.trans (by (repeat' (first | (with_reducible exact G.refl _) | (with_reducible refine G.drewN ?_ _) | (with_reducible refine G.drew ?_) | (with_reducible refine G.alloc ?_ _)))) hG4
          have g24 : G w2 w4 := g23.trans g34
          have g4 : G w1 w4 := g2.trans g24
          have HIB := Lib.hid (hIB.later g34)
          clear hIB hG3 hG4
          have HLL := Lib.hid (show (lens l 0 r).length = 130 by rw [lens_len]; exact HM.out)
          have HRG := Lib.hid (fun (j : Nat) (t : Tu) (h : l[j]? = some t) => show 0 ≤ t.f ∧ 1 ≤ t.c ∧ t.f + t.c ≤ (130 : Int) ∧ Rt t.n by
            have hone := (ckT_ok HCK.out).2.2.2.1 t (List.mem_of_getElem? h)
            unfold InR at hone
            exact ⟨hone.2.1, hone.1, by omega, hone.2.2.2.2.1⟩)
          obtain ⟨i0, hi0, hz0, hz1, hz2⟩ := info_parts' iInfo
          go_wp2_with fail
          go_loopg [10, 11] n (fun q y z wr => ∃ (i : Nat) (v : Value) (Us : List Int), v = y ∧ z = .int .i64 i ∧ q = n - i ∧ i ≤ n ∧ Hid (Us.length = i) ∧ Hid (∀ j t, j < i → l[j]? = some t → UK t (l.drop (j + 1)) r ∧ Us[j]? = some (lgI l r t j)) ∧ Hid (Row inE 3 1 w4.heap.size wr v Us) ∧ G w4 wr)
          case atStart => exact ⟨0, _, [], rfl, rfl, by omega, by omega, Lib.hid rfl, Lib.hid (fun j t h => by omega), Lib.hid (Row.nil (enc := inE) w4), by (repeat' (first | (with_reducible exact G.refl _) | (with_reducible assumption) | (with_reducible refine G.drewN ?_ _) | (with_reducible refine G.drew ?_) | (with_reducible refine G.alloc ?_ _) | (with_reducible refine G.setCell ?_ (by first | (with_reducible exact Nat.le_refl _) | (simp; done) | (simp; omega) | omega) _) | (with_reducible refine G.trans ?_ (by assumption))))⟩
          case round =>
            obtain ⟨i, v, Us, rfl, rfl, hq, hi', hUL, hA, hR, gr⟩ := hrel
            have HQ := Lib.hid hq
            clear hq
            by_cases hin : i < n
            · obtain ⟨⟨f, cc, aa, nn⟩, hp⟩ : ∃ z, l[i]? = some z := ⟨l[i]'(by have := HN.out; omega), List.getElem?_eq_getElem (by have := HN.out; omega)⟩
              have HP := Lib.hid hp
              have b1 : (0 : Int) ≤ (i : Int) := by omega
              have b2 : (i : Int) < (n : Int) := by omega
              have q1 := IntWalk.i64_in ((i : Int) + 1) (by have := HK.out; omega)
              have HU := Lib.hid (hua.out i _ hp)
              clear hp
              go_wp2_with fail
              refine (rUnit_any a2 b l r n c2 130 d i f cc aa nn _ HN.out HK.out HM.out HM2.out (H3.out.later (g4.trans (gr.trans (by (repeat' (first | (with_reducible exact G.refl _) | (with_reducible assumption) | (with_reducible refine G.drewN ?_ _) | (with_reducible refine G.drew ?_) | (with_reducible refine G.alloc ?_ _) | (with_reducible refine G.setCell ?_ (by first | (with_reducible exact Nat.le_refl _) | (simp; done) | (simp; omega) | omega) _) | (with_reducible refine G.trans ?_ (by assumption)))))))) (H2.out.later (g1.trans (g4.trans (gr.trans (by (repeat' (first | (with_reducible exact G.refl _) | (with_reducible assumption) | (with_reducible refine G.drewN ?_ _) | (with_reducible refine G.drew ?_) | (with_reducible refine G.alloc ?_ _) | (with_reducible refine G.setCell ?_ (by first | (with_reducible exact Nat.le_refl _) | (simp; done) | (simp; omega) | omega) _) | (with_reducible refine G.trans ?_ (by assumption))))))))) HCK.out HIN.out HP.out).mono ?_
              rintro x w5 ⟨hD, hG5⟩
              rcases hD with ⟨_, rfl⟩ | ⟨hno, _⟩
              rotate_left
              · exact absurd HU.out hno
              have g5 : G wr w5 := G.trans (by (repeat' (first | (with_reducible exact G.refl _) | (with_reducible refine G.drewN ?_ _) | (with_reducible refine G.drew ?_) | (with_reducible refine G.alloc ?_ _)))) hG5
              obtain ⟨Y, hY⟩ : ∃ z : Int, Hid (lgI l r ⟨f, cc, aa, nn⟩ i = z) := ⟨_, rfl⟩
              rw [hY.out]
              go_wp2_with (at_builtin; refine wpList_append_own _ rfl _ _ 40 rfl w4.heap.size 3 i0 (.int .i64 0) 1 8 Try.underlying40 hi0 hz0 hz1 hz2 rfl (by decide) v Us.length (Us.flatMap inE) rfl (hR.out.later (show G wr _ by (repeat' (first | (with_reducible exact G.refl _) | (with_reducible assumption) | (with_reducible refine G.drewN ?_ _) | (with_reducible refine G.drew ?_) | (with_reducible refine G.alloc ?_ _) | (with_reducible refine G.setCell ?_ (by first | (with_reducible exact Nat.le_refl _) | (simp; done) | (simp; omega) | omega) _) | (with_reducible refine G.trans ?_ (by assumption)))))) ⟨w5.heap.size, 0, none⟩ 1 1 [.int .i64 Y] rfl rfl (new_add _ _ [.int .i64 Y] _ (by simp [go_sem])) (by simp [Value.oneCell']) (by unfold maxLen; rw [hUL.out]; have := HK.out; omega) (by rw [hUL.out]; have := HK.out; omega) (by have := gr.size; have := g5.size; simp [go_sem]; omega) ?_; intro v' w6 hown' hgrow _)
              have RN := Lib.hid (Row.more (enc := inE) (M := Us) (x := Y) hown')
              have gN : G w4 w6 := Below.grown (B := w4.heap.size) (show G w4 _ from gr.trans (g5.trans (by (repeat' (first | (with_reducible exact G.refl _) | (with_reducible assumption) | (with_reducible refine G.drewN ?_ _) | (with_reducible refine G.drew ?_) | (with_reducible refine G.alloc ?_ _) | (with_reducible refine G.setCell ?_ (by first | (with_reducible exact Nat.le_refl _) | (simp; done) | (simp; omega) | omega) _) | (with_reducible refine G.trans ?_ (by assumption))))))) hgrow (by have := gr.size; have := g5.size; simp [go_sem]; omega) (fun k hk => hR.out.own k hk)
              go_roundg (n - (i + 1))
              case measure => have := HQ.out; omega
              case rel => exact ⟨i + 1, v', Us ++ [Y], rfl, by first | rfl | go_num, rfl, by omega, Lib.hid (by rw [List.length_append, hUL.out]; rfl), Lib.hid (fun j t hj hjt => by
                by_cases e : j = i
                · subst e
                  rw [HP.out] at hjt
                  obtain rfl := Option.some.inj hjt
                  exact ⟨HU.out, by rw [List.getElem?_append_right (by rw [hUL.out]; exact Nat.le_refl _), hUL.out, Nat.sub_self, hY.out]; rfl⟩
                · have h := hA.out j t (by omega) hjt
                  exact ⟨h.1, by rw [List.getElem?_append_left (by rw [hUL.out]; omega)]; exact h.2⟩), Lib.hid RN.out, gN⟩
            · have hii : i = n := by omega
              obtain ⟨a3, c3, rfl, hI3⟩ := hR.out.ints
              have HUL := Lib.hid (show Us.length = n by rw [hUL.out, hii])
              have HUA := Lib.hid (fun (j : Nat) (t : Tu) (h : l[j]? = some t) => (hA.out j t (by have := (List.getElem?_eq_some_iff.1 h).1; have := HN.out; omega) h).2)
              rw [HUL.out]
              have HI3 := Lib.hid hI3
              have hji := hii.symm
              clear hI3 hR hA hin
              subst hji
              clear hUL
              go_wp2_with fail
              go_loopg [14] n (fun q x wr2 => ∃ i : Nat, x = .int .i64 i ∧ q = n - i ∧ i ≤ n ∧ G wr wr2)
              case atStart => exact ⟨0, rfl, by omega, by omega, by (repeat' (first | (with_reducible exact G.refl _) | (with_reducible assumption) | (with_reducible refine G.drewN ?_ _) | (with_reducible refine G.drew ?_) | (with_reducible refine G.alloc ?_ _) | (with_reducible refine G.setCell ?_ (by first | (with_reducible exact Nat.le_refl _) | (simp; done) | (simp; omega) | omega) _) | (with_reducible refine G.trans ?_ (by assumption))))⟩
              case round =>
                obtain ⟨j, rfl, hq2, hj, gr2⟩ := hrel
                have HQ2 := Lib.hid hq2
                clear hq2
                by_cases hjn : j < n
                · obtain ⟨t, hp⟩ : ∃ z, l[j]? = some z := ⟨l[j]'(by have := HN.out; omega), List.getElem?_eq_getElem (by have := HN.out; omega)⟩
                  have hx := HUA.out j t hp
                  rcases HI3.out with hz | ⟨b7, o7, rfl, f7⟩
                  · rw [hz] at hx; simp at hx
                  have y0 := (g24.trans (gr.trans gr2)).at (hcell.out j t hp)
                  have y1 := gr2.at (f7 j _ hx)
                  obtain ⟨Y, hY⟩ : ∃ z : Int, Hid (lgI l r t j = z) := ⟨_, rfl⟩
                  rw [hY.out] at y0 y1
                  have b1 : (0 : Int) ≤ (j : Int) := by omega
                  have b2 : (j : Int) < (n : Int) := by omega
                  have q1 := IntWalk.i64_in ((j : Int) + 1) (by have := HK.out; omega)
                  clear f7 hx hp
                  go_wp2_with fail
                  go_big_region
                  all_goals
                    go_wp2_with fail
                    go_roundg (n - (j + 1))
                    case measure => have := HQ2.out; omega
                    case rel => exact ⟨j + 1, by go_num, rfl, by omega, by (repeat' (first | (with_reducible exact G.refl _) | (with_reducible assumption) | (with_reducible refine G.drewN ?_ _) | (with_reducible refine G.drew ?_) | (with_reducible refine G.alloc ?_ _) | (with_reducible refine G.setCell ?_ (by first | (with_reducible exact Nat.le_refl _) | (simp; done) | (simp; omega) | omega) _) | (with_reducible refine G.trans ?_ (by assumption))))⟩
                · have b2 : ¬ (j : Int) < (n : Int) := by omega
                  go_wp2_with fail
                  go_loopg [15] n (fun q x wr3 => ∃ i : Nat, x = .int .i64 i ∧ q = n - i ∧ i ≤ n ∧ G wr wr3)
                  case atStart => exact ⟨0, rfl, by omega, by omega, by (repeat' (first | (with_reducible exact G.refl _) | (with_reducible assumption) | (with_reducible refine G.drewN ?_ _) | (with_reducible refine G.drew ?_) | (with_reducible refine G.alloc ?_ _) | (with_reducible refine G.setCell ?_ (by first | (with_reducible exact Nat.le_refl _) | (simp; done) | (simp; omega) | omega) _) | (with_reducible refine G.trans ?_ (by assumption))))⟩
                  case round =>
                    obtain ⟨k, rfl, hq3, hk', gr3⟩ := hrel
                    have HQ3 := Lib.hid hq3
                    clear hq3 b2
                    by_cases hkn : k < n
                    · obtain ⟨⟨f, cc, aa, nn⟩, hp⟩ : ∃ z, l[k]? = some z := ⟨l[k]'(by have := HN.out; omega), List.getElem?_eq_getElem (by have := HN.out; omega)⟩
                      rcases H3.out with hz | ⟨b3', o3, rfl, f3⟩
                      · rw [hz] at hp; simp at hp
                      have HP := Lib.hid hp
                      have X3 := Lib.hid (f3 k _ hp)
                      have HR1 := Lib.hid (show 0 ≤ f ∧ 1 ≤ cc ∧ f + cc ≤ (130 : Int) ∧ Rt nn from HRG.out k _ hp)
                      have b3 : (0 : Int) ≤ (k : Int) := by omega
                      have b4 : (k : Int) < (n : Int) := by omega
                      go_wp2_with fail
                      go_loopg [16, 17] k (fun q x y wr4 => ∃ (j : Nat) (B : Bool), x = .bool B ∧ y = .int .i64 j ∧ q = k - j ∧ j ≤ k ∧ Hid (B = true ↔ ∀ u, u ∈ l.take j → ¬ Wi ⟨f, cc, aa, nn⟩ u) ∧ G wr wr4)
                      case atStart => exact ⟨0, true, rfl, rfl, by omega, by omega, Lib.hid ⟨fun _ u hu => by simp at hu, fun _ => rfl⟩, by (repeat' (first | (with_reducible exact G.refl _) | (with_reducible assumption) | (with_reducible refine G.drewN ?_ _) | (with_reducible refine G.drew ?_) | (with_reducible refine G.alloc ?_ _) | (with_reducible refine G.setCell ?_ (by first | (with_reducible exact Nat.le_refl _) | (simp; done) | (simp; omega) | omega) _) | (with_reducible refine G.trans ?_ (by assumption))))⟩
                      case round =>
                        obtain ⟨j, B, rfl, rfl, hq4, hj4, HB, gr4⟩ := hrel
                        have HQ4 := Lib.hid hq4
                        clear hq4
                        by_cases hjk : j < k
                        · obtain ⟨⟨f', c', a', n'⟩, hp2⟩ : ∃ z, l[j]? = some z := ⟨l[j]'(by have := HN.out; omega), List.getElem?_eq_getElem (by have := HN.out; omega)⟩
                          have X3 := Lib.hid (f3 k _ hp)
                          have X4 := Lib.hid (f3 j _ hp2)
                          have gx := g4.trans (gr.trans (gr2.trans (gr3.trans gr4)))
                          obtain ⟨x0, x1, x2, x3⟩ := X3.out.later gx
                          obtain ⟨y0, y1, y2, y3⟩ := X4.out.later gx
                          dsimp only at x0 x1 x2 x3 y0 y1 y2 y3
                          have HTK := Lib.hid (show l.take (j + 1) = l.take j ++ [⟨f', c', a', n'⟩] by rw [List.take_add_one, hp2]; rfl)
                          have HR1 := Lib.hid (HRG.out k _ hp)
                          have HR2 := Lib.hid (HRG.out j _ hp2)
                          have b5 : (0 : Int) ≤ (j : Int) := by omega
                          have b6 : (j : Int) < (n : Int) := by omega
                          have b7 : (j : Int) < (k : Int) := by omega
                          have q2 := IntWalk.i64_in ((j : Int) + 1) (by have := HK.out; omega)
                          have HJK := Lib.hid hjk
                          clear hp2 gx hjk
                          cases B with
                          | false =>
                            go_wp2_with fail
                            go_big_region
                            all_goals
                              go_wp2_with fail
                              go_roundg (k - (j + 1))
                              case measure => have := HQ4.out; have := HJK.out; omega
                              case rel => exact ⟨j + 1, false, rfl, by go_num, rfl, by have := HJK.out; omega, Lib.hid ⟨fun h => (by cases h), fun h => HB.out.2 (fun u hu => h u (by rw [HTK.out]; exact List.mem_append_left _ hu))⟩, gr4.trans (by (repeat' (first | (with_reducible exact G.refl _) | (with_reducible assumption) | (with_reducible refine G.drewN ?_ _) | (with_reducible refine G.drew ?_) | (with_reducible refine G.alloc ?_ _) | (with_reducible refine G.setCell ?_ (by first | (with_reducible exact Nat.le_refl _) | (simp; done) | (simp; omega) | omega) _) | (with_reducible refine G.trans ?_ (by assumption)))))⟩
                          | true =>
                            by_cases hw : Wi ⟨f, cc, aa, nn⟩ ⟨f', c', a', n'⟩
                            · have HW := Lib.hid hw
                              clear hw
                              go_wp2_with fail
                              go_region_held3 (fun w' => w'.cell? ⟨b3', o3 + k * 4, none⟩ = some (.int .i64 f) ∧ w'.cell? ⟨b3', o3 + k * 4 + 1, none⟩ = some (.int .i64 cc) ∧ w'.cell? ⟨b3', o3 + k * 4 + 2, none⟩ = some (.int .i64 aa) ∧ w'.cell? ⟨b3', o3 + k * 4 + 3, none⟩ = some (.int .i64 nn) ∧ w'.cell? ⟨b3', o3 + j * 4, none⟩ = some (.int .i64 f') ∧ w'.cell? ⟨b3', o3 + j * 4 + 1, none⟩ = some (.int .i64 c') ∧ w'.cell? ⟨b3', o3 + j * 4 + 2, none⟩ = some (.int .i64 a') ∧ w'.cell? ⟨b3', o3 + j * 4 + 3, none⟩ = some (.int .i64 n'))
                                (first | (with_reducible assumption) | ((try dsimp only); (repeat' (with_reducible apply And.intro)) <;> go_simp))
                                (first | (go_at_call 31; refine (rWithin_any _ _ _ _ _ _ _ _ _ (by have := HR1.out; have := HM2.out; omega) (by have := HR2.out; have := HM2.out; omega)).mono ?_; rintro x w5 ⟨rfl, hG5⟩; rw [decide_eq_true HW.out]; have gq : G wr w5 := G.trans (by (repeat' (first | (with_reducible exact G.refl _) | (with_reducible refine G.drewN ?_ _) | (with_reducible refine G.drew ?_) | (with_reducible refine G.alloc ?_ _)))) hG5; have X0 := gq.at x0; have X1 := gq.at x1; have X2 := gq.at x2; have X3 := gq.at x3; have Y0 := gq.at y0; have Y1 := gq.at y1; have Y2 := gq.at y2; have Y3 := gq.at y3))
                              all_goals
                                go_wp2_with fail
                                go_roundg (k - (j + 1))
                                case measure => have := HQ4.out; have := HJK.out; omega
                                case rel => exact ⟨j + 1, false, rfl, by go_num, rfl, by have := HJK.out; omega, Lib.hid ⟨fun h => (by cases h), fun h => absurd HW.out (h _ (by rw [HTK.out]; exact List.mem_append_right _ (List.mem_singleton.2 rfl)))⟩, gr4.trans (gq.trans (by (repeat' (first | (with_reducible exact G.refl _) | (with_reducible assumption) | (with_reducible refine G.drewN ?_ _) | (with_reducible refine G.drew ?_) | (with_reducible refine G.alloc ?_ _) | (with_reducible refine G.setCell ?_ (by first | (with_reducible exact Nat.le_refl _) | (simp; done) | (simp; omega) | omega) _) | (with_reducible refine G.trans ?_ (by assumption))))))⟩
                            · have HW := Lib.hid hw
                              clear hw
                              go_wp2_with fail
                              go_region_held3 (fun w' => w'.cell? ⟨b3', o3 + k * 4, none⟩ = some (.int .i64 f) ∧ w'.cell? ⟨b3', o3 + k * 4 + 1, none⟩ = some (.int .i64 cc) ∧ w'.cell? ⟨b3', o3 + k * 4 + 2, none⟩ = some (.int .i64 aa) ∧ w'.cell? ⟨b3', o3 + k * 4 + 3, none⟩ = some (.int .i64 nn) ∧ w'.cell? ⟨b3', o3 + j * 4, none⟩ = some (.int .i64 f') ∧ w'.cell? ⟨b3', o3 + j * 4 + 1, none⟩ = some (.int .i64 c') ∧ w'.cell? ⟨b3', o3 + j * 4 + 2, none⟩ = some (.int .i64 a') ∧ w'.cell? ⟨b3', o3 + j * 4 + 3, none⟩ = some (.int .i64 n'))
                                (first | (with_reducible assumption) | ((try dsimp only); (repeat' (with_reducible apply And.intro)) <;> go_simp))
                                (first | (go_at_call 31; refine (rWithin_any _ _ _ _ _ _ _ _ _ (by have := HR1.out; have := HM2.out; omega) (by have := HR2.out; have := HM2.out; omega)).mono ?_; rintro x w5 ⟨rfl, hG5⟩; rw [decide_eq_false HW.out]; have gq : G wr w5 := G.trans (by (repeat' (first | (with_reducible exact G.refl _) | (with_reducible refine G.drewN ?_ _) | (with_reducible refine G.drew ?_) | (with_reducible refine G.alloc ?_ _)))) hG5; have X0 := gq.at x0; have X1 := gq.at x1; have X2 := gq.at x2; have X3 := gq.at x3; have Y0 := gq.at y0; have Y1 := gq.at y1; have Y2 := gq.at y2; have Y3 := gq.at y3))
                              all_goals
                                go_wp2_with fail
                                go_roundg (k - (j + 1))
                                case measure => have := HQ4.out; have := HJK.out; omega
                                case rel => exact ⟨j + 1, true, rfl, by go_num, rfl, by have := HJK.out; omega, Lib.hid ⟨fun _ u hu => by
                                  rw [HTK.out] at hu
                                  rcases List.mem_append.1 hu with h | h
                                  · exact HB.out.1 (by first | rfl | trivial) u h
                                  · rw [List.mem_singleton.1 h]; exact HW.out, fun _ => rfl⟩, gr4.trans (gq.trans (by (repeat' (first | (with_reducible exact G.refl _) | (with_reducible assumption) | (with_reducible refine G.drewN ?_ _) | (with_reducible refine G.drew ?_) | (with_reducible refine G.alloc ?_ _) | (with_reducible refine G.setCell ?_ (by first | (with_reducible exact Nat.le_refl _) | (simp; done) | (simp; omega) | omega) _) | (with_reducible refine G.trans ?_ (by assumption))))))⟩
                        · have hjk2 : k = j := by omega
                          have b7 : ¬ (j : Int) < (k : Int) := by omega
                          subst hjk2
                          clear hp
                          go_wp2_with fail
                          go_loopg [18, 19] 130 (fun q x y wr5 => ∃ e : Nat, x = .int .i64 (sumU ⟨f, cc, aa, nn⟩ (gL l r) e) ∧ y = .int .i64 e ∧ q = 130 - e ∧ e ≤ 130 ∧ G wr wr5)
                          case atStart => exact ⟨0, rfl, rfl, by omega, by omega, by (repeat' (first | (with_reducible exact G.refl _) | (with_reducible assumption) | (with_reducible refine G.drewN ?_ _) | (with_reducible refine G.drew ?_) | (with_reducible refine G.alloc ?_ _) | (with_reducible refine G.setCell ?_ (by first | (with_reducible exact Nat.le_refl _) | (simp; done) | (simp; omega) | omega) _) | (with_reducible refine G.trans ?_ (by assumption))))⟩
                          case round =>
                            obtain ⟨e, rfl, rfl, hq5, he5, gr5⟩ := hrel
                            have HQ5 := Lib.hid hq5
                            clear hq5
                            by_cases hem : e < 130
                            · obtain ⟨x, hx⟩ : ∃ z, (lens l 0 r)[e]? = some z := ⟨(lens l 0 r)[e]'(by have := HLL.out; omega), List.getElem?_eq_getElem (by have := HLL.out; omega)⟩
                              rcases HIB.out with hz | ⟨b9, o9, rfl, f9⟩
                              · rw [hz] at hx; simp at hx
                              have gx := gr.trans (gr2.trans (gr3.trans (gr4.trans gr5)))
                              have xr := gx.at (f9 e _ hx)
                              obtain ⟨x0, x1, x2, x3⟩ := X3.out.later (g4.trans gx)
                              dsimp only at x0 x1 x2 x3
                              have HGL := Lib.hid (gL_at hx)
                              have HSN := Lib.hid (show sumU ⟨f, cc, aa, nn⟩ (gL l r) (e + 1) = sumU ⟨f, cc, aa, nn⟩ (gL l r) e + (if InT ⟨f, cc, aa, nn⟩ e then gL l r e else 0) from rfl)
                              have hsb2 := sumL_bd (t := ⟨f, cc, aa, nn⟩) (l := l) (r := r) (ckT_fit HCK.out) (e + 1)
                              obtain ⟨S, hS⟩ : ∃ z : Int, Hid (sumU ⟨f, cc, aa, nn⟩ (gL l r) e = z) := ⟨_, rfl⟩
                              rw [hS.out] at HSN ⊢
                              have HSB := Lib.hid hsb2
                              have b5 : (0 : Int) ≤ (e : Int) := by omega
                              have b6 : (e : Int) < (130 : Int) := by omega
                              have q2 := IntWalk.i64_in ((e : Int) + 1) (by have := HM2.out; omega)
                              have HEM := Lib.hid hem
                              clear f9 hx hsb2 gx hem
                              by_cases hit : InT ⟨f, cc, aa, nn⟩ e
                              · have HS2 := Lib.hid (show sumU ⟨f, cc, aa, nn⟩ (gL l r) (e + 1) = S + x by rw [HSN.out, if_pos hit, HGL.out])
                                have q3 := IntWalk.i64_in (S + x) (by
                                  have := HSB.out
                                  rw [HS2.out] at this
                                  have := HM2.out
                                  omega)
                                have HD := Lib.hid (decide_eq_true hit)
                                clear hit
                                go_wp2_with fail
                                refine (rIn_any f cc aa nn e _ (by have := HR1.out; have := HM2.out; omega) (by have := HR1.out; have := HM2.out; omega)).mono ?_
                                rintro y w6 ⟨rfl, hG6⟩
                                have g6 : G wr w6 := G.trans (by (repeat' (first | (with_reducible exact G.refl _) | (with_reducible refine G.drewN ?_ _) | (with_reducible refine G.drew ?_) | (with_reducible refine G.alloc ?_ _)))) hG6
                                replace xr := g6.at xr
                                rw [HD.out]
                                go_wp2_with fail
                                go_roundg (130 - (e + 1))
                                case measure => have := HQ5.out; have := HEM.out; omega
                                case rel => exact ⟨e + 1, by rw [HS2.out], by go_num, rfl, by have := HEM.out; omega, gr5.trans (g6.trans (by (repeat' (first | (with_reducible exact G.refl _) | (with_reducible assumption) | (with_reducible refine G.drewN ?_ _) | (with_reducible refine G.drew ?_) | (with_reducible refine G.alloc ?_ _) | (with_reducible refine G.setCell ?_ (by first | (with_reducible exact Nat.le_refl _) | (simp; done) | (simp; omega) | omega) _) | (with_reducible refine G.trans ?_ (by assumption))))))⟩
                              · have HS2 := Lib.hid (show sumU ⟨f, cc, aa, nn⟩ (gL l r) (e + 1) = S by rw [HSN.out, if_neg hit, Int.add_zero])
                                have HD := Lib.hid (decide_eq_false hit)
                                clear hit
                                go_wp2_with fail
                                refine (rIn_any f cc aa nn e _ (by have := HR1.out; have := HM2.out; omega) (by have := HR1.out; have := HM2.out; omega)).mono ?_
                                rintro y w6 ⟨rfl, hG6⟩
                                have g6 : G wr w6 := G.trans (by (repeat' (first | (with_reducible exact G.refl _) | (with_reducible refine G.drewN ?_ _) | (with_reducible refine G.drew ?_) | (with_reducible refine G.alloc ?_ _)))) hG6
                                rw [HD.out]
                                go_wp2_with fail
                                go_roundg (130 - (e + 1))
                                case measure => have := HQ5.out; have := HEM.out; omega
                                case rel => exact ⟨e + 1, by rw [HS2.out], by go_num, rfl, by have := HEM.out; omega, gr5.trans (g6.trans (by (repeat' (first | (with_reducible exact G.refl _) | (with_reducible assumption) | (with_reducible refine G.drewN ?_ _) | (with_reducible refine G.drew ?_) | (with_reducible refine G.alloc ?_ _) | (with_reducible refine G.setCell ?_ (by first | (with_reducible exact Nat.le_refl _) | (simp; done) | (simp; omega) | omega) _) | (with_reducible refine G.trans ?_ (by assumption))))))⟩
                            · have hee : e = 130 := by omega
                              have HEE := Lib.hid (show sumU ⟨f, cc, aa, nn⟩ (gL l r) e = sumU ⟨f, cc, aa, nn⟩ (gL l r) r.length by rw [HM.out, hee])
                              obtain ⟨S, hS⟩ : ∃ z : Int, Hid (sumU ⟨f, cc, aa, nn⟩ (gL l r) e = z) := ⟨_, rfl⟩
                              rw [hS.out]
                              have hje := hee.symm
                              subst hje
                              have q2 := IntWalk.i64_in ((k : Int) + 1) (by have := HK.out; omega)
                              clear hem
                              cases B with
                              | false =>
                                go_wp2_with fail
                                go_big_region
                                all_goals
                                  go_wp2_with fail
                                  go_roundg (n - (k + 1))
                                  case measure => have := HQ3.out; omega
                                  case rel => exact ⟨k + 1, by go_num, rfl, by omega, gr3.trans (gr4.trans (gr5.trans (by (repeat' (first | (with_reducible exact G.refl _) | (with_reducible assumption) | (with_reducible refine G.drewN ?_ _) | (with_reducible refine G.drew ?_) | (with_reducible refine G.alloc ?_ _) | (with_reducible refine G.setCell ?_ (by first | (with_reducible exact Nat.le_refl _) | (simp; done) | (simp; omega) | omega) _) | (with_reducible refine G.trans ?_ (by assumption)))))))⟩
                              | true =>
                                obtain ⟨kk, hkk, e1, e2⟩ := unit_sum HK0.out HP.out (HB.out.1 rfl) (hua.out k _ HP.out)
                                have gx := gr.trans (gr2.trans (gr3.trans (gr4.trans gr5)))
                                obtain ⟨x0, x1, x2, x3⟩ := X3.out.later (g4.trans gx)
                                dsimp only at x0 x1 x2 x3
                                have yk := (g24.trans gx).at (hcell.out k _ HP.out)
                                rw [e1] at yk
                                have hsz := sz_bd kk
                                have hpw := shr_pow kk hkk
                                have hmin : min kk 64 = kk := by omega
                                have j5 : (kk : Int) - 1 + 1 = (kk : Int) := by omega
                                have j4 := IntWalk.i64_in (kk : Int) (by omega)
                                have j3 := IntWalk.i64_in ((kk : Int) - 1 + 1) (by omega)
                                have hrn := HR1.out.2.2.2
                                obtain ⟨n0, n1⟩ := hrn
                                have p1 : sz kk * nn ≤ 3870720 * 32 := Int.mul_le_mul hsz.2 n1 (by omega) (by omega)
                                have p2 : 0 ≤ sz kk * nn := Int.mul_nonneg hsz.1 (by omega)
                                have q3 := IntWalk.i64_in (sz kk * nn) (by omega)
                                have q4 := IntWalk.wrap64_in (sz kk * nn) (by omega)
                                have q5 := IntWalk.i64_in (sz kk) (by omega)
                                have q6 := IntWalk.wrap64_in (sz kk) (by omega)
                                have hSV : S = sz kk * nn := by rw [← hS.out, HEE.out, e2]
                                have hs2 : (S == sz kk * nn) = true := by rw [hSV]; simp
                                have hs3 : (S != sz kk * nn) = false := by simp [bne, hs2]
                                have HSV := Lib.hid hSV
                                have HKK := Lib.hid (And.intro hkk hsz)
                                clear e1 e2 hkk hsz p1 p2 hSV gx
                                go_wp2_with fail
                                go_big_region
                                all_goals
                                  go_wp2_with fail
                                  go_roundg (n - (k + 1))
                                  case measure => have := HQ3.out; omega
                                  case rel => exact ⟨k + 1, by go_num, rfl, by omega, gr3.trans (gr4.trans (gr5.trans (by (repeat' (first | (with_reducible exact G.refl _) | (with_reducible assumption) | (with_reducible refine G.drewN ?_ _) | (with_reducible refine G.drew ?_) | (with_reducible refine G.alloc ?_ _) | (with_reducible refine G.setCell ?_ (by first | (with_reducible exact Nat.le_refl _) | (simp; done) | (simp; omega) | omega) _) | (with_reducible refine G.trans ?_ (by assumption)))))))⟩
                    · have b2 : ¬ (k : Int) < (n : Int) := by omega
                      go_wp2_with fail
                      go_ret
                      exact ⟨by first | rfl | simp, g1.trans (g4.trans (gr.trans (gr2.trans (gr3.trans (by (repeat' (first | (with_reducible exact G.refl _) | (with_reducible assumption) | (with_reducible refine G.drewN ?_ _) | (with_reducible refine G.drew ?_) | (with_reducible refine G.alloc ?_ _) | (with_reducible refine G.setCell ?_ (by first | (with_reducible exact Nat.le_refl _) | (simp; done) | (simp; omega) | omega) _) | (with_reducible refine G.trans ?_ (by assumption)))))))))⟩
        · have hun := Lib.hid hun0
          clear hun0
          have HK0 := Lib.hid hk
          have HCK := Lib.hid (show ckT 130 l = 0 by have := (lensT_ok hk).1; rwa [HM.out] at this)
          have HIN := Lib.hid (fun (i : Nat) x (h : r[i]? = some x) => lensT_in hk h)
          clear hk
          go_wp2_with fail
          refine (rLengths_any a2 b l r n c2 130 d _ HN.out HM.out HM2.out (H3.out.later (g2.trans (by (repeat' (first | (with_reducible exact G.refl _) | (with_reducible assumption) | (with_reducible refine G.drewN ?_ _) | (with_reducible refine G.drew ?_) | (with_reducible refine G.alloc ?_ _) | (with_reducible refine G.setCell ?_ (by first | (with_reducible exact Nat.le_refl _) | (simp; done) | (simp; omega) | omega) _) | (with_reducible refine G.trans ?_ (by assumption))))))) (H2.out.later (g1.trans (g2.trans (by (repeat' (first | (with_reducible exact G.refl _) | (with_reducible assumption) | (with_reducible refine G.drewN ?_ _) | (with_reducible refine G.drew ?_) | (with_reducible refine G.alloc ?_ _) | (with_reducible refine G.setCell ?_ (by first | (with_reducible exact Nat.le_refl _) | (simp; done) | (simp; omega) | omega) _) | (with_reducible refine G.trans ?_ (by assumption))))))))).mono ?_
          rintro e w3 ⟨v4, rfl, hQ4, hG3⟩
          have g23 : G w2 w3 := G.trans (by (repeat' (first | (with_reducible exact G.refl _) | (with_reducible refine G.drewN ?_ _) | (with_reducible refine G.drew ?_) | (with_reducible refine G.alloc ?_ _)))) hG3
          unfold LensQ at hQ4
          rw [if_pos HK0.out] at hQ4
          obtain ⟨pb, pd, rfl, hIB⟩ := hQ4
          rw [HK0.out, HM.out]
          go_wp2_with fail
          refine (known_any _).mono ?_
          rintro x w4 ⟨rfl, hG4⟩
          have g34 : G w3 w4 := G.trans (by (repeat' (first | (with_reducible exact G.refl _) | (with_reducible refine G.drewN ?_ _) | (with_reducible refine G.drew ?_) | (with_reducible refine G.alloc ?_ _)))) hG4
          have g24 : G w2 w4 := g23.trans g34
          have g4 : G w1 w4 := g2.trans g24
          have HIB := Lib.hid (hIB.later g34)
          clear hIB hG3 hG4
          obtain ⟨i0, hi0, hz0, hz1, hz2⟩ := info_parts' iInfo
          go_wp2_with fail
          go_loopg [10, 11] n (fun q y z wr => ∃ (i : Nat) (v : Value) (Us : List Int), v = y ∧ z = .int .i64 i ∧ q = n - i ∧ i ≤ n ∧ Hid (Us.length = i) ∧ Hid (∀ j t, j < i → l[j]? = some t → UK t (l.drop (j + 1)) r ∧ Us[j]? = some (lgI l r t j)) ∧ Hid (Row inE 3 1 w4.heap.size wr v Us) ∧ G w4 wr)
          case atStart => exact ⟨0, _, [], rfl, rfl, by omega, by omega, Lib.hid rfl, Lib.hid (fun j t h => by omega), Lib.hid (Row.nil (enc := inE) w4), by (repeat' (first | (with_reducible exact G.refl _) | (with_reducible assumption) | (with_reducible refine G.drewN ?_ _) | (with_reducible refine G.drew ?_) | (with_reducible refine G.alloc ?_ _) | (with_reducible refine G.setCell ?_ (by first | (with_reducible exact Nat.le_refl _) | (simp; done) | (simp; omega) | omega) _) | (with_reducible refine G.trans ?_ (by assumption))))⟩
          case round =>
            obtain ⟨i, v, Us, rfl, rfl, hq, hi', hUL, hA, hR, gr⟩ := hrel
            have HQ := Lib.hid hq
            clear hq
            by_cases hin : i < n
            · obtain ⟨⟨f, cc, aa, nn⟩, hp⟩ : ∃ z, l[i]? = some z := ⟨l[i]'(by have := HN.out; omega), List.getElem?_eq_getElem (by have := HN.out; omega)⟩
              have HP := Lib.hid hp
              have b1 : (0 : Int) ≤ (i : Int) := by omega
              have b2 : (i : Int) < (n : Int) := by omega
              have q1 := IntWalk.i64_in ((i : Int) + 1) (by have := HK.out; omega)
              clear hp
              by_cases hu : UK ⟨f, cc, aa, nn⟩ (l.drop (i + 1)) r
              · have HU := Lib.hid hu
                clear hu
                go_wp2_with fail
                refine (rUnit_any a2 b l r n c2 130 d i f cc aa nn _ HN.out HK.out HM.out HM2.out (H3.out.later (g4.trans (gr.trans (by (repeat' (first | (with_reducible exact G.refl _) | (with_reducible assumption) | (with_reducible refine G.drewN ?_ _) | (with_reducible refine G.drew ?_) | (with_reducible refine G.alloc ?_ _) | (with_reducible refine G.setCell ?_ (by first | (with_reducible exact Nat.le_refl _) | (simp; done) | (simp; omega) | omega) _) | (with_reducible refine G.trans ?_ (by assumption)))))))) (H2.out.later (g1.trans (g4.trans (gr.trans (by (repeat' (first | (with_reducible exact G.refl _) | (with_reducible assumption) | (with_reducible refine G.drewN ?_ _) | (with_reducible refine G.drew ?_) | (with_reducible refine G.alloc ?_ _) | (with_reducible refine G.setCell ?_ (by first | (with_reducible exact Nat.le_refl _) | (simp; done) | (simp; omega) | omega) _) | (with_reducible refine G.trans ?_ (by assumption))))))))) HCK.out HIN.out HP.out).mono ?_
                rintro x w5 ⟨hD, hG5⟩
                rcases hD with ⟨_, rfl⟩ | ⟨hno, _⟩
                rotate_left
                · exact absurd HU.out hno
                have g5 : G wr w5 := G.trans (by (repeat' (first | (with_reducible exact G.refl _) | (with_reducible refine G.drewN ?_ _) | (with_reducible refine G.drew ?_) | (with_reducible refine G.alloc ?_ _)))) hG5
                obtain ⟨Y, hY⟩ : ∃ z : Int, Hid (lgI l r ⟨f, cc, aa, nn⟩ i = z) := ⟨_, rfl⟩
                rw [hY.out]
                go_wp2_with (at_builtin; refine wpList_append_own _ rfl _ _ 40 rfl w4.heap.size 3 i0 (.int .i64 0) 1 8 Try.underlying40 hi0 hz0 hz1 hz2 rfl (by decide) v Us.length (Us.flatMap inE) rfl (hR.out.later (show G wr _ by (repeat' (first | (with_reducible exact G.refl _) | (with_reducible assumption) | (with_reducible refine G.drewN ?_ _) | (with_reducible refine G.drew ?_) | (with_reducible refine G.alloc ?_ _) | (with_reducible refine G.setCell ?_ (by first | (with_reducible exact Nat.le_refl _) | (simp; done) | (simp; omega) | omega) _) | (with_reducible refine G.trans ?_ (by assumption)))))) ⟨w5.heap.size, 0, none⟩ 1 1 [.int .i64 Y] rfl rfl (new_add _ _ [.int .i64 Y] _ (by simp [go_sem])) (by simp [Value.oneCell']) (by unfold maxLen; rw [hUL.out]; have := HK.out; omega) (by rw [hUL.out]; have := HK.out; omega) (by have := gr.size; have := g5.size; simp [go_sem]; omega) ?_; intro v' w6 hown' hgrow _)
                have RN := Lib.hid (Row.more (enc := inE) (M := Us) (x := Y) hown')
                have gN : G w4 w6 := Below.grown (B := w4.heap.size) (show G w4 _ from gr.trans (g5.trans (by (repeat' (first | (with_reducible exact G.refl _) | (with_reducible assumption) | (with_reducible refine G.drewN ?_ _) | (with_reducible refine G.drew ?_) | (with_reducible refine G.alloc ?_ _) | (with_reducible refine G.setCell ?_ (by first | (with_reducible exact Nat.le_refl _) | (simp; done) | (simp; omega) | omega) _) | (with_reducible refine G.trans ?_ (by assumption))))))) hgrow (by have := gr.size; have := g5.size; simp [go_sem]; omega) (fun k hk => hR.out.own k hk)
                go_roundg (n - (i + 1))
                case measure => have := HQ.out; omega
                case rel => exact ⟨i + 1, v', Us ++ [Y], rfl, by first | rfl | go_num, rfl, by omega, Lib.hid (by rw [List.length_append, hUL.out]; rfl), Lib.hid (fun j t hj hjt => by
                  by_cases e : j = i
                  · subst e
                    rw [HP.out] at hjt
                    obtain rfl := Option.some.inj hjt
                    exact ⟨HU.out, by rw [List.getElem?_append_right (by rw [hUL.out]; exact Nat.le_refl _), hUL.out, Nat.sub_self, hY.out]; rfl⟩
                  · have h := hA.out j t (by omega) hjt
                    exact ⟨h.1, by rw [List.getElem?_append_left (by rw [hUL.out]; omega)]; exact h.2⟩), Lib.hid RN.out, gN⟩
              · have HU := Lib.hid hu
                clear hu
                go_wp2_with fail
                refine (rUnit_any a2 b l r n c2 130 d i f cc aa nn _ HN.out HK.out HM.out HM2.out (H3.out.later (g4.trans (gr.trans (by (repeat' (first | (with_reducible exact G.refl _) | (with_reducible assumption) | (with_reducible refine G.drewN ?_ _) | (with_reducible refine G.drew ?_) | (with_reducible refine G.alloc ?_ _) | (with_reducible refine G.setCell ?_ (by first | (with_reducible exact Nat.le_refl _) | (simp; done) | (simp; omega) | omega) _) | (with_reducible refine G.trans ?_ (by assumption)))))))) (H2.out.later (g1.trans (g4.trans (gr.trans (by (repeat' (first | (with_reducible exact G.refl _) | (with_reducible assumption) | (with_reducible refine G.drewN ?_ _) | (with_reducible refine G.drew ?_) | (with_reducible refine G.alloc ?_ _) | (with_reducible refine G.setCell ?_ (by first | (with_reducible exact Nat.le_refl _) | (simp; done) | (simp; omega) | omega) _) | (with_reducible refine G.trans ?_ (by assumption))))))))) HCK.out HIN.out HP.out).mono ?_
                rintro x w5 ⟨hD, hG5⟩
                rcases hD with ⟨hyes, _⟩ | ⟨_, rfl⟩
                · exact absurd hyes HU.out
                have g5 : G wr w5 := G.trans (by (repeat' (first | (with_reducible exact G.refl _) | (with_reducible refine G.drewN ?_ _) | (with_reducible refine G.drew ?_) | (with_reducible refine G.alloc ?_ _)))) hG5
                go_wp2_with fail
                go_ret
                exact ⟨by first | rfl | simp, g1.trans (g4.trans (gr.trans (g5.trans (by (repeat' (first | (with_reducible exact G.refl _) | (with_reducible assumption) | (with_reducible refine G.drewN ?_ _) | (with_reducible refine G.drew ?_) | (with_reducible refine G.alloc ?_ _) | (with_reducible refine G.setCell ?_ (by first | (with_reducible exact Nat.le_refl _) | (simp; done) | (simp; omega) | omega) _) | (with_reducible refine G.trans ?_ (by assumption))))))))⟩
            · exact absurd (show UKall l r from fun j t hjt => (hA.out j t (by have := (List.getElem?_eq_some_iff.1 hjt).1; have := HN.out; omega) hjt).1) hun.out
  · by_cases k130 : (r0.length : Int) ≤ 130
    · have H1 := Lib.hid (h1.take 20)
      have HC := Lib.hid ((cb_of hwf).take 20)
      have HN := Lib.hid (show (l0.take 20).length = 20 by rw [List.length_take]; omega)
      have HK := Lib.hid (show 20 ≤ 20 from Nat.le_refl _)
      have m3 : (20 : Int) ≤ (c : Int) := by omega
      have m4 : 20 ≤ c := by omega
      generalize l0.take 20 = l at *
      clear h1 hwf hc
      have HNC := Lib.hid m4
      have H2 := Lib.hid h2
      have HM2 := Lib.hid (show r0.length ≤ 1000 by omega)
      have u3 : (r0.length : Int) ≤ (d : Int) := by omega
      have u5 : r0.length ≤ d := by omega
      generalize r0 = r at *
      obtain ⟨m, hm⟩ : ∃ z : Nat, Hid (r.length = z) := ⟨_, rfl⟩
      rw [hm.out] at HM2 k130 u3 u5 ⊢
      clear h2 hd
      have HM := hm
      clear hm
      go_enter Try.func10, Try.ntmps10
      go_wp2_with fail
      go_big_region
      all_goals
        go_wp2_with fail
        refine (to_any a l 20 c _ HN.out HK.out (H1.out.later (by (repeat' (first | (with_reducible exact G.refl _) | (with_reducible assumption) | (with_reducible refine G.drewN ?_ _) | (with_reducible refine G.drew ?_) | (with_reducible refine G.alloc ?_ _) | (with_reducible refine G.setCell ?_ (by first | (with_reducible exact Nat.le_refl _) | (simp; done) | (simp; omega) | omega) _) | (with_reducible refine G.trans ?_ (by assumption))))))).mono ?_
        rintro x w1 ⟨v2, rfl, hR, hG1⟩
        have g1 : G w w1 := G.trans (by (repeat' (first | (with_reducible exact G.refl _) | (with_reducible refine G.drewN ?_ _) | (with_reducible refine G.drew ?_) | (with_reducible refine G.alloc ?_ _)))) hG1
        obtain ⟨a2, c2, rfl, hT2⟩ := hR.tus
        rw [HN.out]
        have H3 := Lib.hid hT2
        clear hR hT2
        go_wp2_with fail
        refine (Units_any a b l r 20 c m d _ HN.out HNC.out HM.out HM2.out (H1.out.later (g1.trans (by (repeat' (first | (with_reducible exact G.refl _) | (with_reducible assumption) | (with_reducible refine G.drewN ?_ _) | (with_reducible refine G.drew ?_) | (with_reducible refine G.alloc ?_ _) | (with_reducible refine G.setCell ?_ (by first | (with_reducible exact Nat.le_refl _) | (simp; done) | (simp; omega) | omega) _) | (with_reducible refine G.trans ?_ (by assumption))))))) HC.out (H2.out.later (g1.trans (by (repeat' (first | (with_reducible exact G.refl _) | (with_reducible assumption) | (with_reducible refine G.drewN ?_ _) | (with_reducible refine G.drew ?_) | (with_reducible refine G.alloc ?_ _) | (with_reducible refine G.setCell ?_ (by first | (with_reducible exact Nat.le_refl _) | (simp; done) | (simp; omega) | omega) _) | (with_reducible refine G.trans ?_ (by assumption)))))))).mono ?_
        rintro e w2 ⟨hD, hG2⟩
        have g2 : G w1 w2 := G.trans (by (repeat' (first | (with_reducible exact G.refl _) | (with_reducible refine G.drewN ?_ _) | (with_reducible refine G.drew ?_) | (with_reducible refine G.alloc ?_ _)))) hG2
        rcases hD with ⟨hk, rfl⟩ | ⟨hk, hua0, g, rfl, hcell0⟩ | ⟨hk, hun0, rfl⟩
        · obtain ⟨E, hE⟩ : ∃ z : Int, Hid (lensT l r = z) := ⟨_, rfl⟩
          have HNK := Lib.hid hk
          rw [hE.out] at hk ⊢
          have e3 : (E == 0) = false := beq_false_of_ne hk
          have e4 : (E != 0) = true := by simp [bne, e3]
          clear hk
          go_wp2_with fail
          refine (rLengths_any a2 b l r 20 c2 m d _ HN.out HM.out HM2.out (H3.out.later (g2.trans (by (repeat' (first | (with_reducible exact G.refl _) | (with_reducible assumption) | (with_reducible refine G.drewN ?_ _) | (with_reducible refine G.drew ?_) | (with_reducible refine G.alloc ?_ _) | (with_reducible refine G.setCell ?_ (by first | (with_reducible exact Nat.le_refl _) | (simp; done) | (simp; omega) | omega) _) | (with_reducible refine G.trans ?_ (by assumption))))))) (H2.out.later (g1.trans (g2.trans (by (repeat' (first | (with_reducible exact G.refl _) | (with_reducible assumption) | (with_reducible refine G.drewN ?_ _) | (with_reducible refine G.drew ?_) | (with_reducible refine G.alloc ?_ _) | (with_reducible refine G.setCell ?_ (by first | (with_reducible exact Nat.le_refl _) | (simp; done) | (simp; omega) | omega) _) | (with_reducible refine G.trans ?_ (by assumption))))))))).mono ?_
          rintro e w3 ⟨v4, rfl, hQ4, hG3⟩
          have g3 : G w1 w3 := g2.trans (G.trans (by (repeat' (first | (with_reducible exact G.refl _) | (with_reducible refine G.drewN ?_ _) | (with_reducible refine G.drew ?_) | (with_reducible refine G.alloc ?_ _)))) hG3)
          unfold LensQ at hQ4
          rw [if_neg HNK.out] at hQ4
          subst hQ4
          rw [hE.out]
          go_wp2_with fail
          refine (known_any _).mono ?_
          rintro x w4 ⟨rfl, hG4⟩
          have g4 : G w1 w4 := g3.trans (G.trans (by (repeat' (first | (with_reducible exact G.refl _) | (with_reducible refine G.drewN ?_ _) | (with_reducible refine G.drew ?_) | (with_reducible refine G.alloc ?_ _)))) hG4)
          go_wp2_with fail
          go_ret
          exact ⟨by first | rfl | simp, g1.trans (g4.trans (by (repeat' (first | (with_reducible exact G.refl _) | (with_reducible assumption) | (with_reducible refine G.drewN ?_ _) | (with_reducible refine G.drew ?_) | (with_reducible refine G.alloc ?_ _) | (with_reducible refine G.setCell ?_ (by first | (with_reducible exact Nat.le_refl _) | (simp; done) | (simp; omega) | omega) _) | (with_reducible refine G.trans ?_ (by assumption))))))⟩
        · have hua := Lib.hid hua0
          have hcell := Lib.hid hcell0
          clear hua0 hcell0
          have HK0 := Lib.hid hk
          have HCK := Lib.hid (show ckT m l = 0 by have := (lensT_ok hk).1; rwa [HM.out] at this)
          have HIN := Lib.hid (fun (i : Nat) x (h : r[i]? = some x) => lensT_in hk h)
          clear hk
          go_wp2_with fail
          refine (rLengths_any a2 b l r 20 c2 m d _ HN.out HM.out HM2.out (H3.out.later (g2.trans (by (repeat' (first | (with_reducible exact G.refl _) | (with_reducible assumption) | (with_reducible refine G.drewN ?_ _) | (with_reducible refine G.drew ?_) | (with_reducible refine G.alloc ?_ _) | (with_reducible refine G.setCell ?_ (by first | (with_reducible exact Nat.le_refl _) | (simp; done) | (simp; omega) | omega) _) | (with_reducible refine G.trans ?_ (by assumption))))))) (H2.out.later (g1.trans (g2.trans (by (repeat' (first | (with_reducible exact G.refl _) | (with_reducible assumption) | (with_reducible refine G.drewN ?_ _) | (with_reducible refine G.drew ?_) | (with_reducible refine G.alloc ?_ _) | (with_reducible refine G.setCell ?_ (by first | (with_reducible exact Nat.le_refl _) | (simp; done) | (simp; omega) | omega) _) | (with_reducible refine G.trans ?_ (by assumption))))))))).mono ?_
          rintro e w3 ⟨v4, rfl, hQ4, hG3⟩
          have g23 : G w2 w3 := G.trans (by (repeat' (first | (with_reducible exact G.refl _) | (with_reducible refine G.drewN ?_ _) | (with_reducible refine G.drew ?_) | (with_reducible refine G.alloc ?_ _)))) hG3
          unfold LensQ at hQ4
          rw [if_pos HK0.out] at hQ4
          obtain ⟨pb, pd, rfl, hIB⟩ := hQ4
          rw [HK0.out, HM.out]
          go_wp2_with fail
          refine (known_any _).mono ?_
          rintro x w4 ⟨rfl, hG4⟩
          have g34 : G w3 w4 := G.trans (by (repeat' (first | (with_reducible exact G.refl _) | (with_reducible refine G.drewN ?_ _) | (with_reducible refine G.drew ?_) | (with_reducible refine G.alloc ?_ _)))) hG4
          have g24 : G w2 w4 := g23.trans g34
          have g4 : G w1 w4 := g2.trans g24
          have HIB := Lib.hid (hIB.later g34)
          clear hIB hG3 hG4
          have HLL := Lib.hid (show (lens l 0 r).length = m by rw [lens_len]; exact HM.out)
          have HRG := Lib.hid (fun (j : Nat) (t : Tu) (h : l[j]? = some t) => show 0 ≤ t.f ∧ 1 ≤ t.c ∧ t.f + t.c ≤ (m : Int) ∧ Rt t.n by
            have hone := (ckT_ok HCK.out).2.2.2.1 t (List.mem_of_getElem? h)
            unfold InR at hone
            exact ⟨hone.2.1, hone.1, by omega, hone.2.2.2.2.1⟩)
          obtain ⟨i0, hi0, hz0, hz1, hz2⟩ := info_parts' iInfo
          go_wp2_with fail
          go_loopg [10, 11] 20 (fun q y z wr => ∃ (i : Nat) (v : Value) (Us : List Int), v = y ∧ z = .int .i64 i ∧ q = 20 - i ∧ i ≤ 20 ∧ Hid (Us.length = i) ∧ Hid (∀ j t, j < i → l[j]? = some t → UK t (l.drop (j + 1)) r ∧ Us[j]? = some (lgI l r t j)) ∧ Hid (Row inE 3 1 w4.heap.size wr v Us) ∧ G w4 wr)
          case atStart => exact ⟨0, _, [], rfl, rfl, by omega, by omega, Lib.hid rfl, Lib.hid (fun j t h => by omega), Lib.hid (Row.nil (enc := inE) w4), by (repeat' (first | (with_reducible exact G.refl _) | (with_reducible assumption) | (with_reducible refine G.drewN ?_ _) | (with_reducible refine G.drew ?_) | (with_reducible refine G.alloc ?_ _) | (with_reducible refine G.setCell ?_ (by first | (with_reducible exact Nat.le_refl _) | (simp; done) | (simp; omega) | omega) _) | (with_reducible refine G.trans ?_ (by assumption))))⟩
          case round =>
            obtain ⟨i, v, Us, rfl, rfl, hq, hi', hUL, hA, hR, gr⟩ := hrel
            have HQ := Lib.hid hq
            clear hq
            by_cases hin : i < 20
            · obtain ⟨⟨f, cc, aa, nn⟩, hp⟩ : ∃ z, l[i]? = some z := ⟨l[i]'(by have := HN.out; omega), List.getElem?_eq_getElem (by have := HN.out; omega)⟩
              have HP := Lib.hid hp
              have b1 : (0 : Int) ≤ (i : Int) := by omega
              have b2 : (i : Int) < (20 : Int) := by omega
              have q1 := IntWalk.i64_in ((i : Int) + 1) (by have := HK.out; omega)
              have HU := Lib.hid (hua.out i _ hp)
              clear hp
              go_wp2_with fail
              refine (rUnit_any a2 b l r 20 c2 m d i f cc aa nn _ HN.out HK.out HM.out HM2.out (H3.out.later (g4.trans (gr.trans (by (repeat' (first | (with_reducible exact G.refl _) | (with_reducible assumption) | (with_reducible refine G.drewN ?_ _) | (with_reducible refine G.drew ?_) | (with_reducible refine G.alloc ?_ _) | (with_reducible refine G.setCell ?_ (by first | (with_reducible exact Nat.le_refl _) | (simp; done) | (simp; omega) | omega) _) | (with_reducible refine G.trans ?_ (by assumption)))))))) (H2.out.later (g1.trans (g4.trans (gr.trans (by (repeat' (first | (with_reducible exact G.refl _) | (with_reducible assumption) | (with_reducible refine G.drewN ?_ _) | (with_reducible refine G.drew ?_) | (with_reducible refine G.alloc ?_ _) | (with_reducible refine G.setCell ?_ (by first | (with_reducible exact Nat.le_refl _) | (simp; done) | (simp; omega) | omega) _) | (with_reducible refine G.trans ?_ (by assumption))))))))) HCK.out HIN.out HP.out).mono ?_
              rintro x w5 ⟨hD, hG5⟩
              rcases hD with ⟨_, rfl⟩ | ⟨hno, _⟩
              rotate_left
              · exact absurd HU.out hno
              have g5 : G wr w5 := G.trans (by (repeat' (first | (with_reducible exact G.refl _) | (with_reducible refine G.drewN ?_ _) | (with_reducible refine G.drew ?_) | (with_reducible refine G.alloc ?_ _)))) hG5
              obtain ⟨Y, hY⟩ : ∃ z : Int, Hid (lgI l r ⟨f, cc, aa, nn⟩ i = z) := ⟨_, rfl⟩
              rw [hY.out]
              go_wp2_with (at_builtin; refine wpList_append_own _ rfl _ _ 40 rfl w4.heap.size 3 i0 (.int .i64 0) 1 8 Try.underlying40 hi0 hz0 hz1 hz2 rfl (by decide) v Us.length (Us.flatMap inE) rfl (hR.out.later (show G wr _ by (repeat' (first | (with_reducible exact G.refl _) | (with_reducible assumption) | (with_reducible refine G.drewN ?_ _) | (with_reducible refine G.drew ?_) | (with_reducible refine G.alloc ?_ _) | (with_reducible refine G.setCell ?_ (by first | (with_reducible exact Nat.le_refl _) | (simp; done) | (simp; omega) | omega) _) | (with_reducible refine G.trans ?_ (by assumption)))))) ⟨w5.heap.size, 0, none⟩ 1 1 [.int .i64 Y] rfl rfl (new_add _ _ [.int .i64 Y] _ (by simp [go_sem])) (by simp [Value.oneCell']) (by unfold maxLen; rw [hUL.out]; have := HK.out; omega) (by rw [hUL.out]; have := HK.out; omega) (by have := gr.size; have := g5.size; simp [go_sem]; omega) ?_; intro v' w6 hown' hgrow _)
              have RN := Lib.hid (Row.more (enc := inE) (M := Us) (x := Y) hown')
              have gN : G w4 w6 := Below.grown (B := w4.heap.size) (show G w4 _ from gr.trans (g5.trans (by (repeat' (first | (with_reducible exact G.refl _) | (with_reducible assumption) | (with_reducible refine G.drewN ?_ _) | (with_reducible refine G.drew ?_) | (with_reducible refine G.alloc ?_ _) | (with_reducible refine G.setCell ?_ (by first | (with_reducible exact Nat.le_refl _) | (simp; done) | (simp; omega) | omega) _) | (with_reducible refine G.trans ?_ (by assumption))))))) hgrow (by have := gr.size; have := g5.size; simp [go_sem]; omega) (fun k hk => hR.out.own k hk)
              go_roundg (20 - (i + 1))
              case measure => have := HQ.out; omega
              case rel => exact ⟨i + 1, v', Us ++ [Y], rfl, by first | rfl | go_num, rfl, by omega, Lib.hid (by rw [List.length_append, hUL.out]; rfl), Lib.hid (fun j t hj hjt => by
                by_cases e : j = i
                · subst e
                  rw [HP.out] at hjt
                  obtain rfl := Option.some.inj hjt
                  exact ⟨HU.out, by rw [List.getElem?_append_right (by rw [hUL.out]; exact Nat.le_refl _), hUL.out, Nat.sub_self, hY.out]; rfl⟩
                · have h := hA.out j t (by omega) hjt
                  exact ⟨h.1, by rw [List.getElem?_append_left (by rw [hUL.out]; omega)]; exact h.2⟩), Lib.hid RN.out, gN⟩
            · have hii : i = 20 := by omega
              obtain ⟨a3, c3, rfl, hI3⟩ := hR.out.ints
              have HUL := Lib.hid (show Us.length = 20 by rw [hUL.out, hii])
              have HUA := Lib.hid (fun (j : Nat) (t : Tu) (h : l[j]? = some t) => (hA.out j t (by have := (List.getElem?_eq_some_iff.1 h).1; have := HN.out; omega) h).2)
              rw [HUL.out]
              have HI3 := Lib.hid hI3
              have hji := hii.symm
              clear hI3 hR hA hin
              subst hji
              clear hUL
              go_wp2_with fail
              go_loopg [14] 20 (fun q x wr2 => ∃ i : Nat, x = .int .i64 i ∧ q = 20 - i ∧ i ≤ 20 ∧ G wr wr2)
              case atStart => exact ⟨0, rfl, by omega, by omega, by (repeat' (first | (with_reducible exact G.refl _) | (with_reducible assumption) | (with_reducible refine G.drewN ?_ _) | (with_reducible refine G.drew ?_) | (with_reducible refine G.alloc ?_ _) | (with_reducible refine G.setCell ?_ (by first | (with_reducible exact Nat.le_refl _) | (simp; done) | (simp; omega) | omega) _) | (with_reducible refine G.trans ?_ (by assumption))))⟩
              case round =>
                obtain ⟨j, rfl, hq2, hj, gr2⟩ := hrel
                have HQ2 := Lib.hid hq2
                clear hq2
                by_cases hjn : j < 20
                · obtain ⟨t, hp⟩ : ∃ z, l[j]? = some z := ⟨l[j]'(by have := HN.out; omega), List.getElem?_eq_getElem (by have := HN.out; omega)⟩
                  have hx := HUA.out j t hp
                  rcases HI3.out with hz | ⟨b7, o7, rfl, f7⟩
                  · rw [hz] at hx; simp at hx
                  have y0 := (g24.trans (gr.trans gr2)).at (hcell.out j t hp)
                  have y1 := gr2.at (f7 j _ hx)
                  obtain ⟨Y, hY⟩ : ∃ z : Int, Hid (lgI l r t j = z) := ⟨_, rfl⟩
                  rw [hY.out] at y0 y1
                  have b1 : (0 : Int) ≤ (j : Int) := by omega
                  have b2 : (j : Int) < (20 : Int) := by omega
                  have q1 := IntWalk.i64_in ((j : Int) + 1) (by have := HK.out; omega)
                  clear f7 hx hp
                  go_wp2_with fail
                  go_big_region
                  all_goals
                    go_wp2_with fail
                    go_roundg (20 - (j + 1))
                    case measure => have := HQ2.out; omega
                    case rel => exact ⟨j + 1, by go_num, rfl, by omega, by (repeat' (first | (with_reducible exact G.refl _) | (with_reducible assumption) | (with_reducible refine G.drewN ?_ _) | (with_reducible refine G.drew ?_) | (with_reducible refine G.alloc ?_ _) | (with_reducible refine G.setCell ?_ (by first | (with_reducible exact Nat.le_refl _) | (simp; done) | (simp; omega) | omega) _) | (with_reducible refine G.trans ?_ (by assumption))))⟩
                · have b2 : ¬ (j : Int) < (20 : Int) := by omega
                  go_wp2_with fail
                  go_loopg [15] 20 (fun q x wr3 => ∃ i : Nat, x = .int .i64 i ∧ q = 20 - i ∧ i ≤ 20 ∧ G wr wr3)
                  case atStart => exact ⟨0, rfl, by omega, by omega, by (repeat' (first | (with_reducible exact G.refl _) | (with_reducible assumption) | (with_reducible refine G.drewN ?_ _) | (with_reducible refine G.drew ?_) | (with_reducible refine G.alloc ?_ _) | (with_reducible refine G.setCell ?_ (by first | (with_reducible exact Nat.le_refl _) | (simp; done) | (simp; omega) | omega) _) | (with_reducible refine G.trans ?_ (by assumption))))⟩
                  case round =>
                    obtain ⟨k, rfl, hq3, hk', gr3⟩ := hrel
                    have HQ3 := Lib.hid hq3
                    clear hq3 b2
                    by_cases hkn : k < 20
                    · obtain ⟨⟨f, cc, aa, nn⟩, hp⟩ : ∃ z, l[k]? = some z := ⟨l[k]'(by have := HN.out; omega), List.getElem?_eq_getElem (by have := HN.out; omega)⟩
                      rcases H3.out with hz | ⟨b3', o3, rfl, f3⟩
                      · rw [hz] at hp; simp at hp
                      have HP := Lib.hid hp
                      have X3 := Lib.hid (f3 k _ hp)
                      have HR1 := Lib.hid (show 0 ≤ f ∧ 1 ≤ cc ∧ f + cc ≤ (m : Int) ∧ Rt nn from HRG.out k _ hp)
                      have b3 : (0 : Int) ≤ (k : Int) := by omega
                      have b4 : (k : Int) < (20 : Int) := by omega
                      go_wp2_with fail
                      go_loopg [16, 17] k (fun q x y wr4 => ∃ (j : Nat) (B : Bool), x = .bool B ∧ y = .int .i64 j ∧ q = k - j ∧ j ≤ k ∧ Hid (B = true ↔ ∀ u, u ∈ l.take j → ¬ Wi ⟨f, cc, aa, nn⟩ u) ∧ G wr wr4)
                      case atStart => exact ⟨0, true, rfl, rfl, by omega, by omega, Lib.hid ⟨fun _ u hu => by simp at hu, fun _ => rfl⟩, by (repeat' (first | (with_reducible exact G.refl _) | (with_reducible assumption) | (with_reducible refine G.drewN ?_ _) | (with_reducible refine G.drew ?_) | (with_reducible refine G.alloc ?_ _) | (with_reducible refine G.setCell ?_ (by first | (with_reducible exact Nat.le_refl _) | (simp; done) | (simp; omega) | omega) _) | (with_reducible refine G.trans ?_ (by assumption))))⟩
                      case round =>
                        obtain ⟨j, B, rfl, rfl, hq4, hj4, HB, gr4⟩ := hrel
                        have HQ4 := Lib.hid hq4
                        clear hq4
                        by_cases hjk : j < k
                        · obtain ⟨⟨f', c', a', n'⟩, hp2⟩ : ∃ z, l[j]? = some z := ⟨l[j]'(by have := HN.out; omega), List.getElem?_eq_getElem (by have := HN.out; omega)⟩
                          have X3 := Lib.hid (f3 k _ hp)
                          have X4 := Lib.hid (f3 j _ hp2)
                          have gx := g4.trans (gr.trans (gr2.trans (gr3.trans gr4)))
                          obtain ⟨x0, x1, x2, x3⟩ := X3.out.later gx
                          obtain ⟨y0, y1, y2, y3⟩ := X4.out.later gx
                          dsimp only at x0 x1 x2 x3 y0 y1 y2 y3
                          have HTK := Lib.hid (show l.take (j + 1) = l.take j ++ [⟨f', c', a', n'⟩] by rw [List.take_add_one, hp2]; rfl)
                          have HR1 := Lib.hid (HRG.out k _ hp)
                          have HR2 := Lib.hid (HRG.out j _ hp2)
                          have b5 : (0 : Int) ≤ (j : Int) := by omega
                          have b6 : (j : Int) < (20 : Int) := by omega
                          have b7 : (j : Int) < (k : Int) := by omega
                          have q2 := IntWalk.i64_in ((j : Int) + 1) (by have := HK.out; omega)
                          have HJK := Lib.hid hjk
                          clear hp2 gx hjk
                          cases B with
                          | false =>
                            go_wp2_with fail
                            go_big_region
                            all_goals
                              go_wp2_with fail
                              go_roundg (k - (j + 1))
                              case measure => have := HQ4.out; have := HJK.out; omega
                              case rel => exact ⟨j + 1, false, rfl, by go_num, rfl, by have := HJK.out; omega, Lib.hid ⟨fun h => (by cases h), fun h => HB.out.2 (fun u hu => h u (by rw [HTK.out]; exact List.mem_append_left _ hu))⟩, gr4.trans (by (repeat' (first | (with_reducible exact G.refl _) | (with_reducible assumption) | (with_reducible refine G.drewN ?_ _) | (with_reducible refine G.drew ?_) | (with_reducible refine G.alloc ?_ _) | (with_reducible refine G.setCell ?_ (by first | (with_reducible exact Nat.le_refl _) | (simp; done) | (simp; omega) | omega) _) | (with_reducible refine G.trans ?_ (by assumption)))))⟩
                          | true =>
                            by_cases hw : Wi ⟨f, cc, aa, nn⟩ ⟨f', c', a', n'⟩
                            · have HW := Lib.hid hw
                              clear hw
                              go_wp2_with fail
                              go_region_held3 (fun w' => w'.cell? ⟨b3', o3 + k * 4, none⟩ = some (.int .i64 f) ∧ w'.cell? ⟨b3', o3 + k * 4 + 1, none⟩ = some (.int .i64 cc) ∧ w'.cell? ⟨b3', o3 + k * 4 + 2, none⟩ = some (.int .i64 aa) ∧ w'.cell? ⟨b3', o3 + k * 4 + 3, none⟩ = some (.int .i64 nn) ∧ w'.cell? ⟨b3', o3 + j * 4, none⟩ = some (.int .i64 f') ∧ w'.cell? ⟨b3', o3 + j * 4 + 1, none⟩ = some (.int .i64 c') ∧ w'.cell? ⟨b3', o3 + j * 4 + 2, none⟩ = some (.int .i64 a') ∧ w'.cell? ⟨b3', o3 + j * 4 + 3, none⟩ = some (.int .i64 n'))
                                (first | (with_reducible assumption) | ((try dsimp only); (repeat' (with_reducible apply And.intro)) <;> go_simp))
                                (first | (go_at_call 31; refine (rWithin_any _ _ _ _ _ _ _ _ _ (by have := HR1.out; have := HM2.out; omega) (by have := HR2.out; have := HM2.out; omega)).mono ?_; rintro x w5 ⟨rfl, hG5⟩; rw [decide_eq_true HW.out]; have gq : G wr w5 := G.trans (by (repeat' (first | (with_reducible exact G.refl _) | (with_reducible refine G.drewN ?_ _) | (with_reducible refine G.drew ?_) | (with_reducible refine G.alloc ?_ _)))) hG5; have X0 := gq.at x0; have X1 := gq.at x1; have X2 := gq.at x2; have X3 := gq.at x3; have Y0 := gq.at y0; have Y1 := gq.at y1; have Y2 := gq.at y2; have Y3 := gq.at y3))
                              all_goals
                                go_wp2_with fail
                                go_roundg (k - (j + 1))
                                case measure => have := HQ4.out; have := HJK.out; omega
                                case rel => exact ⟨j + 1, false, rfl, by go_num, rfl, by have := HJK.out; omega, Lib.hid ⟨fun h => (by cases h), fun h => absurd HW.out (h _ (by rw [HTK.out]; exact List.mem_append_right _ (List.mem_singleton.2 rfl)))⟩, gr4.trans (gq.trans (by (repeat' (first | (with_reducible exact G.refl _) | (with_reducible assumption) | (with_reducible refine G.drewN ?_ _) | (with_reducible refine G.drew ?_) | (with_reducible refine G.alloc ?_ _) | (with_reducible refine G.setCell ?_ (by first | (with_reducible exact Nat.le_refl _) | (simp; done) | (simp; omega) | omega) _) | (with_reducible refine G.trans ?_ (by assumption))))))⟩
                            · have HW := Lib.hid hw
                              clear hw
                              go_wp2_with fail
                              go_region_held3 (fun w' => w'.cell? ⟨b3', o3 + k * 4, none⟩ = some (.int .i64 f) ∧ w'.cell? ⟨b3', o3 + k * 4 + 1, none⟩ = some (.int .i64 cc) ∧ w'.cell? ⟨b3', o3 + k * 4 + 2, none⟩ = some (.int .i64 aa) ∧ w'.cell? ⟨b3', o3 + k * 4 + 3, none⟩ = some (.int .i64 nn) ∧ w'.cell? ⟨b3', o3 + j * 4, none⟩ = some (.int .i64 f') ∧ w'.cell? ⟨b3', o3 + j * 4 + 1, none⟩ = some (.int .i64 c') ∧ w'.cell? ⟨b3', o3 + j * 4 + 2, none⟩ = some (.int .i64 a') ∧ w'.cell? ⟨b3', o3 + j * 4 + 3, none⟩ = some (.int .i64 n'))
                                (first | (with_reducible assumption) | ((try dsimp only); (repeat' (with_reducible apply And.intro)) <;> go_simp))
                                (first | (go_at_call 31; refine (rWithin_any _ _ _ _ _ _ _ _ _ (by have := HR1.out; have := HM2.out; omega) (by have := HR2.out; have := HM2.out; omega)).mono ?_; rintro x w5 ⟨rfl, hG5⟩; rw [decide_eq_false HW.out]; have gq : G wr w5 := G.trans (by (repeat' (first | (with_reducible exact G.refl _) | (with_reducible refine G.drewN ?_ _) | (with_reducible refine G.drew ?_) | (with_reducible refine G.alloc ?_ _)))) hG5; have X0 := gq.at x0; have X1 := gq.at x1; have X2 := gq.at x2; have X3 := gq.at x3; have Y0 := gq.at y0; have Y1 := gq.at y1; have Y2 := gq.at y2; have Y3 := gq.at y3))
                              all_goals
                                go_wp2_with fail
                                go_roundg (k - (j + 1))
                                case measure => have := HQ4.out; have := HJK.out; omega
                                case rel => exact ⟨j + 1, true, rfl, by go_num, rfl, by have := HJK.out; omega, Lib.hid ⟨fun _ u hu => by
                                  rw [HTK.out] at hu
                                  rcases List.mem_append.1 hu with h | h
                                  · exact HB.out.1 (by first | rfl | trivial) u h
                                  · rw [List.mem_singleton.1 h]; exact HW.out, fun _ => rfl⟩, gr4.trans (gq.trans (by (repeat' (first | (with_reducible exact G.refl _) | (with_reducible assumption) | (with_reducible refine G.drewN ?_ _) | (with_reducible refine G.drew ?_) | (with_reducible refine G.alloc ?_ _) | (with_reducible refine G.setCell ?_ (by first | (with_reducible exact Nat.le_refl _) | (simp; done) | (simp; omega) | omega) _) | (with_reducible refine G.trans ?_ (by assumption))))))⟩
                        · have hjk2 : k = j := by omega
                          have b7 : ¬ (j : Int) < (k : Int) := by omega
                          subst hjk2
                          clear hp
                          go_wp2_with fail
                          go_loopg [18, 19] m (fun q x y wr5 => ∃ e : Nat, x = .int .i64 (sumU ⟨f, cc, aa, nn⟩ (gL l r) e) ∧ y = .int .i64 e ∧ q = m - e ∧ e ≤ m ∧ G wr wr5)
                          case atStart => exact ⟨0, rfl, rfl, by omega, by omega, by (repeat' (first | (with_reducible exact G.refl _) | (with_reducible assumption) | (with_reducible refine G.drewN ?_ _) | (with_reducible refine G.drew ?_) | (with_reducible refine G.alloc ?_ _) | (with_reducible refine G.setCell ?_ (by first | (with_reducible exact Nat.le_refl _) | (simp; done) | (simp; omega) | omega) _) | (with_reducible refine G.trans ?_ (by assumption))))⟩
                          case round =>
                            obtain ⟨e, rfl, rfl, hq5, he5, gr5⟩ := hrel
                            have HQ5 := Lib.hid hq5
                            clear hq5
                            by_cases hem : e < m
                            · obtain ⟨x, hx⟩ : ∃ z, (lens l 0 r)[e]? = some z := ⟨(lens l 0 r)[e]'(by have := HLL.out; omega), List.getElem?_eq_getElem (by have := HLL.out; omega)⟩
                              rcases HIB.out with hz | ⟨b9, o9, rfl, f9⟩
                              · rw [hz] at hx; simp at hx
                              have gx := gr.trans (gr2.trans (gr3.trans (gr4.trans gr5)))
                              have xr := gx.at (f9 e _ hx)
                              obtain ⟨x0, x1, x2, x3⟩ := X3.out.later (g4.trans gx)
                              dsimp only at x0 x1 x2 x3
                              have HGL := Lib.hid (gL_at hx)
                              have HSN := Lib.hid (show sumU ⟨f, cc, aa, nn⟩ (gL l r) (e + 1) = sumU ⟨f, cc, aa, nn⟩ (gL l r) e + (if InT ⟨f, cc, aa, nn⟩ e then gL l r e else 0) from rfl)
                              have hsb2 := sumL_bd (t := ⟨f, cc, aa, nn⟩) (l := l) (r := r) (ckT_fit HCK.out) (e + 1)
                              obtain ⟨S, hS⟩ : ∃ z : Int, Hid (sumU ⟨f, cc, aa, nn⟩ (gL l r) e = z) := ⟨_, rfl⟩
                              rw [hS.out] at HSN ⊢
                              have HSB := Lib.hid hsb2
                              have b5 : (0 : Int) ≤ (e : Int) := by omega
                              have b6 : (e : Int) < (m : Int) := by omega
                              have q2 := IntWalk.i64_in ((e : Int) + 1) (by have := HM2.out; omega)
                              have HEM := Lib.hid hem
                              clear f9 hx hsb2 gx hem
                              by_cases hit : InT ⟨f, cc, aa, nn⟩ e
                              · have HS2 := Lib.hid (show sumU ⟨f, cc, aa, nn⟩ (gL l r) (e + 1) = S + x by rw [HSN.out, if_pos hit, HGL.out])
                                have q3 := IntWalk.i64_in (S + x) (by
                                  have := HSB.out
                                  rw [HS2.out] at this
                                  have := HM2.out
                                  omega)
                                have HD := Lib.hid (decide_eq_true hit)
                                clear hit
                                go_wp2_with fail
                                refine (rIn_any f cc aa nn e _ (by have := HR1.out; have := HM2.out; omega) (by have := HR1.out; have := HM2.out; omega)).mono ?_
                                rintro y w6 ⟨rfl, hG6⟩
                                have g6 : G wr w6 := G.trans (by (repeat' (first | (with_reducible exact G.refl _) | (with_reducible refine G.drewN ?_ _) | (with_reducible refine G.drew ?_) | (with_reducible refine G.alloc ?_ _)))) hG6
                                replace xr := g6.at xr
                                rw [HD.out]
                                go_wp2_with fail
                                go_roundg (m - (e + 1))
                                case measure => have := HQ5.out; have := HEM.out; omega
                                case rel => exact ⟨e + 1, by rw [HS2.out], by go_num, rfl, by have := HEM.out; omega, gr5.trans (g6.trans (by (repeat' (first | (with_reducible exact G.refl _) | (with_reducible assumption) | (with_reducible refine G.drewN ?_ _) | (with_reducible refine G.drew ?_) | (with_reducible refine G.alloc ?_ _) | (with_reducible refine G.setCell ?_ (by first | (with_reducible exact Nat.le_refl _) | (simp; done) | (simp; omega) | omega) _) | (with_reducible refine G.trans ?_ (by assumption))))))⟩
                              · have HS2 := Lib.hid (show sumU ⟨f, cc, aa, nn⟩ (gL l r) (e + 1) = S by rw [HSN.out, if_neg hit, Int.add_zero])
                                have HD := Lib.hid (decide_eq_false hit)
                                clear hit
                                go_wp2_with fail
                                refine (rIn_any f cc aa nn e _ (by have := HR1.out; have := HM2.out; omega) (by have := HR1.out; have := HM2.out; omega)).mono ?_
                                rintro y w6 ⟨rfl, hG6⟩
                                have g6 : G wr w6 := G.trans (by (repeat' (first | (with_reducible exact G.refl _) | (with_reducible refine G.drewN ?_ _) | (with_reducible refine G.drew ?_) | (with_reducible refine G.alloc ?_ _)))) hG6
                                rw [HD.out]
                                go_wp2_with fail
                                go_roundg (m - (e + 1))
                                case measure => have := HQ5.out; have := HEM.out; omega
                                case rel => exact ⟨e + 1, by rw [HS2.out], by go_num, rfl, by have := HEM.out; omega, gr5.trans (g6.trans (by (repeat' (first | (with_reducible exact G.refl _) | (with_reducible assumption) | (with_reducible refine G.drewN ?_ _) | (with_reducible refine G.drew ?_) | (with_reducible refine G.alloc ?_ _) | (with_reducible refine G.setCell ?_ (by first | (with_reducible exact Nat.le_refl _) | (simp; done) | (simp; omega) | omega) _) | (with_reducible refine G.trans ?_ (by assumption))))))⟩
                            · have hee : e = m := by omega
                              have HEE := Lib.hid (show sumU ⟨f, cc, aa, nn⟩ (gL l r) e = sumU ⟨f, cc, aa, nn⟩ (gL l r) r.length by rw [HM.out, hee])
                              obtain ⟨S, hS⟩ : ∃ z : Int, Hid (sumU ⟨f, cc, aa, nn⟩ (gL l r) e = z) := ⟨_, rfl⟩
                              rw [hS.out]
                              have hje := hee.symm
                              subst hje
                              have q2 := IntWalk.i64_in ((k : Int) + 1) (by have := HK.out; omega)
                              clear hem
                              cases B with
                              | false =>
                                go_wp2_with fail
                                go_big_region
                                all_goals
                                  go_wp2_with fail
                                  go_roundg (20 - (k + 1))
                                  case measure => have := HQ3.out; omega
                                  case rel => exact ⟨k + 1, by go_num, rfl, by omega, gr3.trans (gr4.trans (gr5.trans (by (repeat' (first | (with_reducible exact G.refl _) | (with_reducible assumption) | (with_reducible refine G.drewN ?_ _) | (with_reducible refine G.drew ?_) | (with_reducible refine G.alloc ?_ _) | (with_reducible refine G.setCell ?_ (by first | (with_reducible exact Nat.le_refl _) | (simp; done) | (simp; omega) | omega) _) | (with_reducible refine G.trans ?_ (by assumption)))))))⟩
                              | true =>
                                obtain ⟨kk, hkk, e1, e2⟩ := unit_sum HK0.out HP.out (HB.out.1 rfl) (hua.out k _ HP.out)
                                have gx := gr.trans (gr2.trans (gr3.trans (gr4.trans gr5)))
                                obtain ⟨x0, x1, x2, x3⟩ := X3.out.later (g4.trans gx)
                                dsimp only at x0 x1 x2 x3
                                have yk := (g24.trans gx).at (hcell.out k _ HP.out)
                                rw [e1] at yk
                                have hsz := sz_bd kk
                                have hpw := shr_pow kk hkk
                                have hmin : min kk 64 = kk := by omega
                                have j5 : (kk : Int) - 1 + 1 = (kk : Int) := by omega
                                have j4 := IntWalk.i64_in (kk : Int) (by omega)
                                have j3 := IntWalk.i64_in ((kk : Int) - 1 + 1) (by omega)
                                have hrn := HR1.out.2.2.2
                                obtain ⟨n0, n1⟩ := hrn
                                have p1 : sz kk * nn ≤ 3870720 * 32 := Int.mul_le_mul hsz.2 n1 (by omega) (by omega)
                                have p2 : 0 ≤ sz kk * nn := Int.mul_nonneg hsz.1 (by omega)
                                have q3 := IntWalk.i64_in (sz kk * nn) (by omega)
                                have q4 := IntWalk.wrap64_in (sz kk * nn) (by omega)
                                have q5 := IntWalk.i64_in (sz kk) (by omega)
                                have q6 := IntWalk.wrap64_in (sz kk) (by omega)
                                have hSV : S = sz kk * nn := by rw [← hS.out, HEE.out, e2]
                                have hs2 : (S == sz kk * nn) = true := by rw [hSV]; simp
                                have hs3 : (S != sz kk * nn) = false := by simp [bne, hs2]
                                have HSV := Lib.hid hSV
                                have HKK := Lib.hid (And.intro hkk hsz)
                                clear e1 e2 hkk hsz p1 p2 hSV gx
                                go_wp2_with fail
                                go_big_region
                                all_goals
                                  go_wp2_with fail
                                  go_roundg (20 - (k + 1))
                                  case measure => have := HQ3.out; omega
                                  case rel => exact ⟨k + 1, by go_num, rfl, by omega, gr3.trans (gr4.trans (gr5.trans (by (repeat' (first | (with_reducible exact G.refl _) | (with_reducible assumption) | (with_reducible refine G.drewN ?_ _) | (with_reducible refine G.drew ?_) | (with_reducible refine G.alloc ?_ _) | (with_reducible refine G.setCell ?_ (by first | (with_reducible exact Nat.le_refl _) | (simp; done) | (simp; omega) | omega) _) | (with_reducible refine G.trans ?_ (by assumption)))))))⟩
                    · have b2 : ¬ (k : Int) < (20 : Int) := by omega
                      go_wp2_with fail
                      go_ret
                      exact ⟨by first | rfl | simp, g1.trans (g4.trans (gr.trans (gr2.trans (gr3.trans (by (repeat' (first | (with_reducible exact G.refl _) | (with_reducible assumption) | (with_reducible refine G.drewN ?_ _) | (with_reducible refine G.drew ?_) | (with_reducible refine G.alloc ?_ _) | (with_reducible refine G.setCell ?_ (by first | (with_reducible exact Nat.le_refl _) | (simp; done) | (simp; omega) | omega) _) | (with_reducible refine G.trans ?_ (by assumption)))))))))⟩
        · have hun := Lib.hid hun0
          clear hun0
          have HK0 := Lib.hid hk
          have HCK := Lib.hid (show ckT m l = 0 by have := (lensT_ok hk).1; rwa [HM.out] at this)
          have HIN := Lib.hid (fun (i : Nat) x (h : r[i]? = some x) => lensT_in hk h)
          clear hk
          go_wp2_with fail
          refine (rLengths_any a2 b l r 20 c2 m d _ HN.out HM.out HM2.out (H3.out.later (g2.trans (by (repeat' (first | (with_reducible exact G.refl _) | (with_reducible assumption) | (with_reducible refine G.drewN ?_ _) | (with_reducible refine G.drew ?_) | (with_reducible refine G.alloc ?_ _) | (with_reducible refine G.setCell ?_ (by first | (with_reducible exact Nat.le_refl _) | (simp; done) | (simp; omega) | omega) _) | (with_reducible refine G.trans ?_ (by assumption))))))) (H2.out.later (g1.trans (g2.trans (by (repeat' (first | (with_reducible exact G.refl _) | (with_reducible assumption) | (with_reducible refine G.drewN ?_ _) | (with_reducible refine G.drew ?_) | (with_reducible refine G.alloc ?_ _) | (with_reducible refine G.setCell ?_ (by first | (with_reducible exact Nat.le_refl _) | (simp; done) | (simp; omega) | omega) _) | (with_reducible refine G.trans ?_ (by assumption))))))))).mono ?_
          rintro e w3 ⟨v4, rfl, hQ4, hG3⟩
          have g23 : G w2 w3 := G.trans (by (repeat' (first | (with_reducible exact G.refl _) | (with_reducible refine G.drewN ?_ _) | (with_reducible refine G.drew ?_) | (with_reducible refine G.alloc ?_ _)))) hG3
          unfold LensQ at hQ4
          rw [if_pos HK0.out] at hQ4
          obtain ⟨pb, pd, rfl, hIB⟩ := hQ4
          rw [HK0.out, HM.out]
          go_wp2_with fail
          refine (known_any _).mono ?_
          rintro x w4 ⟨rfl, hG4⟩
          have g34 : G w3 w4 := G.trans (by (repeat' (first | (with_reducible exact G.refl _) | (with_reducible refine G.drewN ?_ _) | (with_reducible refine G.drew ?_) | (with_reducible refine G.alloc ?_ _)))) hG4
          have g24 : G w2 w4 := g23.trans g34
          have g4 : G w1 w4 := g2.trans g24
          have HIB := Lib.hid (hIB.later g34)
          clear hIB hG3 hG4
          obtain ⟨i0, hi0, hz0, hz1, hz2⟩ := info_parts' iInfo
          go_wp2_with fail
          go_loopg [10, 11] 20 (fun q y z wr => ∃ (i : Nat) (v : Value) (Us : List Int), v = y ∧ z = .int .i64 i ∧ q = 20 - i ∧ i ≤ 20 ∧ Hid (Us.length = i) ∧ Hid (∀ j t, j < i → l[j]? = some t → UK t (l.drop (j + 1)) r ∧ Us[j]? = some (lgI l r t j)) ∧ Hid (Row inE 3 1 w4.heap.size wr v Us) ∧ G w4 wr)
          case atStart => exact ⟨0, _, [], rfl, rfl, by omega, by omega, Lib.hid rfl, Lib.hid (fun j t h => by omega), Lib.hid (Row.nil (enc := inE) w4), by (repeat' (first | (with_reducible exact G.refl _) | (with_reducible assumption) | (with_reducible refine G.drewN ?_ _) | (with_reducible refine G.drew ?_) | (with_reducible refine G.alloc ?_ _) | (with_reducible refine G.setCell ?_ (by first | (with_reducible exact Nat.le_refl _) | (simp; done) | (simp; omega) | omega) _) | (with_reducible refine G.trans ?_ (by assumption))))⟩
          case round =>
            obtain ⟨i, v, Us, rfl, rfl, hq, hi', hUL, hA, hR, gr⟩ := hrel
            have HQ := Lib.hid hq
            clear hq
            by_cases hin : i < 20
            · obtain ⟨⟨f, cc, aa, nn⟩, hp⟩ : ∃ z, l[i]? = some z := ⟨l[i]'(by have := HN.out; omega), List.getElem?_eq_getElem (by have := HN.out; omega)⟩
              have HP := Lib.hid hp
              have b1 : (0 : Int) ≤ (i : Int) := by omega
              have b2 : (i : Int) < (20 : Int) := by omega
              have q1 := IntWalk.i64_in ((i : Int) + 1) (by have := HK.out; omega)
              clear hp
              by_cases hu : UK ⟨f, cc, aa, nn⟩ (l.drop (i + 1)) r
              · have HU := Lib.hid hu
                clear hu
                go_wp2_with fail
                refine (rUnit_any a2 b l r 20 c2 m d i f cc aa nn _ HN.out HK.out HM.out HM2.out (H3.out.later (g4.trans (gr.trans (by (repeat' (first | (with_reducible exact G.refl _) | (with_reducible assumption) | (with_reducible refine G.drewN ?_ _) | (with_reducible refine G.drew ?_) | (with_reducible refine G.alloc ?_ _) | (with_reducible refine G.setCell ?_ (by first | (with_reducible exact Nat.le_refl _) | (simp; done) | (simp; omega) | omega) _) | (with_reducible refine G.trans ?_ (by assumption)))))))) (H2.out.later (g1.trans (g4.trans (gr.trans (by (repeat' (first | (with_reducible exact G.refl _) | (with_reducible assumption) | (with_reducible refine G.drewN ?_ _) | (with_reducible refine G.drew ?_) | (with_reducible refine G.alloc ?_ _) | (with_reducible refine G.setCell ?_ (by first | (with_reducible exact Nat.le_refl _) | (simp; done) | (simp; omega) | omega) _) | (with_reducible refine G.trans ?_ (by assumption))))))))) HCK.out HIN.out HP.out).mono ?_
                rintro x w5 ⟨hD, hG5⟩
                rcases hD with ⟨_, rfl⟩ | ⟨hno, _⟩
                rotate_left
                · exact absurd HU.out hno
                have g5 : G wr w5 := G.trans (by (repeat' (first | (with_reducible exact G.refl _) | (with_reducible refine G.drewN ?_ _) | (with_reducible refine G.drew ?_) | (with_reducible refine G.alloc ?_ _)))) hG5
                obtain ⟨Y, hY⟩ : ∃ z : Int, Hid (lgI l r ⟨f, cc, aa, nn⟩ i = z) := ⟨_, rfl⟩
                rw [hY.out]
                go_wp2_with (at_builtin; refine wpList_append_own _ rfl _ _ 40 rfl w4.heap.size 3 i0 (.int .i64 0) 1 8 Try.underlying40 hi0 hz0 hz1 hz2 rfl (by decide) v Us.length (Us.flatMap inE) rfl (hR.out.later (show G wr _ by (repeat' (first | (with_reducible exact G.refl _) | (with_reducible assumption) | (with_reducible refine G.drewN ?_ _) | (with_reducible refine G.drew ?_) | (with_reducible refine G.alloc ?_ _) | (with_reducible refine G.setCell ?_ (by first | (with_reducible exact Nat.le_refl _) | (simp; done) | (simp; omega) | omega) _) | (with_reducible refine G.trans ?_ (by assumption)))))) ⟨w5.heap.size, 0, none⟩ 1 1 [.int .i64 Y] rfl rfl (new_add _ _ [.int .i64 Y] _ (by simp [go_sem])) (by simp [Value.oneCell']) (by unfold maxLen; rw [hUL.out]; have := HK.out; omega) (by rw [hUL.out]; have := HK.out; omega) (by have := gr.size; have := g5.size; simp [go_sem]; omega) ?_; intro v' w6 hown' hgrow _)
                have RN := Lib.hid (Row.more (enc := inE) (M := Us) (x := Y) hown')
                have gN : G w4 w6 := Below.grown (B := w4.heap.size) (show G w4 _ from gr.trans (g5.trans (by (repeat' (first | (with_reducible exact G.refl _) | (with_reducible assumption) | (with_reducible refine G.drewN ?_ _) | (with_reducible refine G.drew ?_) | (with_reducible refine G.alloc ?_ _) | (with_reducible refine G.setCell ?_ (by first | (with_reducible exact Nat.le_refl _) | (simp; done) | (simp; omega) | omega) _) | (with_reducible refine G.trans ?_ (by assumption))))))) hgrow (by have := gr.size; have := g5.size; simp [go_sem]; omega) (fun k hk => hR.out.own k hk)
                go_roundg (20 - (i + 1))
                case measure => have := HQ.out; omega
                case rel => exact ⟨i + 1, v', Us ++ [Y], rfl, by first | rfl | go_num, rfl, by omega, Lib.hid (by rw [List.length_append, hUL.out]; rfl), Lib.hid (fun j t hj hjt => by
                  by_cases e : j = i
                  · subst e
                    rw [HP.out] at hjt
                    obtain rfl := Option.some.inj hjt
                    exact ⟨HU.out, by rw [List.getElem?_append_right (by rw [hUL.out]; exact Nat.le_refl _), hUL.out, Nat.sub_self, hY.out]; rfl⟩
                  · have h := hA.out j t (by omega) hjt
                    exact ⟨h.1, by rw [List.getElem?_append_left (by rw [hUL.out]; omega)]; exact h.2⟩), Lib.hid RN.out, gN⟩
              · have HU := Lib.hid hu
                clear hu
                go_wp2_with fail
                refine (rUnit_any a2 b l r 20 c2 m d i f cc aa nn _ HN.out HK.out HM.out HM2.out (H3.out.later (g4.trans (gr.trans (by (repeat' (first | (with_reducible exact G.refl _) | (with_reducible assumption) | (with_reducible refine G.drewN ?_ _) | (with_reducible refine G.drew ?_) | (with_reducible refine G.alloc ?_ _) | (with_reducible refine G.setCell ?_ (by first | (with_reducible exact Nat.le_refl _) | (simp; done) | (simp; omega) | omega) _) | (with_reducible refine G.trans ?_ (by assumption)))))))) (H2.out.later (g1.trans (g4.trans (gr.trans (by (repeat' (first | (with_reducible exact G.refl _) | (with_reducible assumption) | (with_reducible refine G.drewN ?_ _) | (with_reducible refine G.drew ?_) | (with_reducible refine G.alloc ?_ _) | (with_reducible refine G.setCell ?_ (by first | (with_reducible exact Nat.le_refl _) | (simp; done) | (simp; omega) | omega) _) | (with_reducible refine G.trans ?_ (by assumption))))))))) HCK.out HIN.out HP.out).mono ?_
                rintro x w5 ⟨hD, hG5⟩
                rcases hD with ⟨hyes, _⟩ | ⟨_, rfl⟩
                · exact absurd hyes HU.out
                have g5 : G wr w5 := G.trans (by (repeat' (first | (with_reducible exact G.refl _) | (with_reducible refine G.drewN ?_ _) | (with_reducible refine G.drew ?_) | (with_reducible refine G.alloc ?_ _)))) hG5
                go_wp2_with fail
                go_ret
                exact ⟨by first | rfl | simp, g1.trans (g4.trans (gr.trans (g5.trans (by (repeat' (first | (with_reducible exact G.refl _) | (with_reducible assumption) | (with_reducible refine G.drewN ?_ _) | (with_reducible refine G.drew ?_) | (with_reducible refine G.alloc ?_ _) | (with_reducible refine G.setCell ?_ (by first | (with_reducible exact Nat.le_refl _) | (simp; done) | (simp; omega) | omega) _) | (with_reducible refine G.trans ?_ (by assumption))))))))⟩
            · exact absurd (show UKall l r from fun j t hjt => (hA.out j t (by have := (List.getElem?_eq_some_iff.1 hjt).1; have := HN.out; omega) hjt).1) hun.out
    · have H1 := Lib.hid (h1.take 20)
      have HC := Lib.hid ((cb_of hwf).take 20)
      have HN := Lib.hid (show (l0.take 20).length = 20 by rw [List.length_take]; omega)
      have HK := Lib.hid (show 20 ≤ 20 from Nat.le_refl _)
      have m3 : (20 : Int) ≤ (c : Int) := by omega
      have m4 : 20 ≤ c := by omega
      generalize l0.take 20 = l at *
      clear h1 hwf hc
      have HNC := Lib.hid m4
      have H2 := Lib.hid (h2.take 130)
      have HM := Lib.hid (show (r0.take 130).length = 130 by rw [List.length_take]; omega)
      have HM2 := Lib.hid (show 130 ≤ 1000 by omega)
      have u3 : (130 : Int) ≤ (d : Int) := by omega
      have u4 : 130 ≤ d := by omega
      generalize r0.take 130 = r at *
      clear h2 hd
      go_enter Try.func10, Try.ntmps10
      go_wp2_with fail
      go_big_region
      all_goals
        go_wp2_with fail
        refine (to_any a l 20 c _ HN.out HK.out (H1.out.later (by (repeat' (first | (with_reducible exact G.refl _) | (with_reducible assumption) | (with_reducible refine G.drewN ?_ _) | (with_reducible refine G.drew ?_) | (with_reducible refine G.alloc ?_ _) | (with_reducible refine G.setCell ?_ (by first | (with_reducible exact Nat.le_refl _) | (simp; done) | (simp; omega) | omega) _) | (with_reducible refine G.trans ?_ (by assumption))))))).mono ?_
        rintro x w1 ⟨v2, rfl, hR, hG1⟩
        have g1 : G w w1 := G.trans (by (repeat' (first | (with_reducible exact G.refl _) | (with_reducible refine G.drewN ?_ _) | (with_reducible refine G.drew ?_) | (with_reducible refine G.alloc ?_ _)))) hG1
        obtain ⟨a2, c2, rfl, hT2⟩ := hR.tus
        rw [HN.out]
        have H3 := Lib.hid hT2
        clear hR hT2
        go_wp2_with fail
        refine (Units_any a b l r 20 c 130 d _ HN.out HNC.out HM.out HM2.out (H1.out.later (g1.trans (by (repeat' (first | (with_reducible exact G.refl _) | (with_reducible assumption) | (with_reducible refine G.drewN ?_ _) | (with_reducible refine G.drew ?_) | (with_reducible refine G.alloc ?_ _) | (with_reducible refine G.setCell ?_ (by first | (with_reducible exact Nat.le_refl _) | (simp; done) | (simp; omega) | omega) _) | (with_reducible refine G.trans ?_ (by assumption))))))) HC.out (H2.out.later (g1.trans (by (repeat' (first | (with_reducible exact G.refl _) | (with_reducible assumption) | (with_reducible refine G.drewN ?_ _) | (with_reducible refine G.drew ?_) | (with_reducible refine G.alloc ?_ _) | (with_reducible refine G.setCell ?_ (by first | (with_reducible exact Nat.le_refl _) | (simp; done) | (simp; omega) | omega) _) | (with_reducible refine G.trans ?_ (by assumption)))))))).mono ?_
        rintro e w2 ⟨hD, hG2⟩
        have g2 : G w1 w2 := G.trans (by (repeat' (first | (with_reducible exact G.refl _) | (with_reducible refine G.drewN ?_ _) | (with_reducible refine G.drew ?_) | (with_reducible refine G.alloc ?_ _)))) hG2
        rcases hD with ⟨hk, rfl⟩ | ⟨hk, hua0, g, rfl, hcell0⟩ | ⟨hk, hun0, rfl⟩
        · obtain ⟨E, hE⟩ : ∃ z : Int, Hid (lensT l r = z) := ⟨_, rfl⟩
          have HNK := Lib.hid hk
          rw [hE.out] at hk ⊢
          have e3 : (E == 0) = false := beq_false_of_ne hk
          have e4 : (E != 0) = true := by simp [bne, e3]
          clear hk
          go_wp2_with fail
          refine (rLengths_any a2 b l r 20 c2 130 d _ HN.out HM.out HM2.out (H3.out.later (g2.trans (by (repeat' (first | (with_reducible exact G.refl _) | (with_reducible assumption) | (with_reducible refine G.drewN ?_ _) | (with_reducible refine G.drew ?_) | (with_reducible refine G.alloc ?_ _) | (with_reducible refine G.setCell ?_ (by first | (with_reducible exact Nat.le_refl _) | (simp; done) | (simp; omega) | omega) _) | (with_reducible refine G.trans ?_ (by assumption))))))) (H2.out.later (g1.trans (g2.trans (by (repeat' (first | (with_reducible exact G.refl _) | (with_reducible assumption) | (with_reducible refine G.drewN ?_ _) | (with_reducible refine G.drew ?_) | (with_reducible refine G.alloc ?_ _) | (with_reducible refine G.setCell ?_ (by first | (with_reducible exact Nat.le_refl _) | (simp; done) | (simp; omega) | omega) _) | (with_reducible refine G.trans ?_ (by assumption))))))))).mono ?_
          rintro e w3 ⟨v4, rfl, hQ4, hG3⟩
          have g3 : G w1 w3 := g2.trans (G.trans (by (repeat' (first | (with_reducible exact G.refl _) | (with_reducible refine G.drewN ?_ _) | (with_reducible refine G.drew ?_) | (with_reducible refine G.alloc ?_ _)))) hG3)
          unfold LensQ at hQ4
          rw [if_neg HNK.out] at hQ4
          subst hQ4
          rw [hE.out]
          go_wp2_with fail
          refine (known_any _).mono ?_
          rintro x w4 ⟨rfl, hG4⟩
          have g4 : G w1 w4 := g3.trans (G.trans (by (repeat' (first | (with_reducible exact G.refl _) | (with_reducible refine G.drewN ?_ _) | (with_reducible refine G.drew ?_) | (with_reducible refine G.alloc ?_ _)))) hG4)
          go_wp2_with fail
          go_ret
          exact ⟨by first | rfl | simp, g1.trans (g4.trans (by (repeat' (first | (with_reducible exact G.refl _) | (with_reducible assumption) | (with_reducible refine G.drewN ?_ _) | (with_reducible refine G.drew ?_) | (with_reducible refine G.alloc ?_ _) | (with_reducible refine G.setCell ?_ (by first | (with_reducible exact Nat.le_refl _) | (simp; done) | (simp; omega) | omega) _) | (with_reducible refine G.trans ?_ (by assumption))))))⟩
        · have hua := Lib.hid hua0
          have hcell := Lib.hid hcell0
          clear hua0 hcell0
          have HK0 := Lib.hid hk
          have HCK := Lib.hid (show ckT 130 l = 0 by have := (lensT_ok hk).1; rwa [HM.out] at this)
          have HIN := Lib.hid (fun (i : Nat) x (h : r[i]? = some x) => lensT_in hk h)
          clear hk
          go_wp2_with fail
          refine (rLengths_any a2 b l r 20 c2 130 d _ HN.out HM.out HM2.out (H3.out.later (g2.trans (by (repeat' (first | (with_reducible exact G.refl _) | (with_reducible assumption) | (with_reducible refine G.drewN ?_ _) | (with_reducible refine G.drew ?_) | (with_reducible refine G.alloc ?_ _) | (with_reducible refine G.setCell ?_ (by first | (with_reducible exact Nat.le_refl _) | (simp; done) | (simp; omega) | omega) _) | (with_reducible refine G.trans ?_ (by assumption))))))) (H2.out.later (g1.trans (g2.trans (by (repeat' (first | (with_reducible exact G.refl _) | (with_reducible assumption) | (with_reducible refine G.drewN ?_ _) | (with_reducible refine G.drew ?_) | (with_reducible refine G.alloc ?_ _) | (with_reducible refine G.setCell ?_ (by first | (with_reducible exact Nat.le_refl _) | (simp; done) | (simp; omega) | omega) _) | (with_reducible refine G.trans ?_ (by assumption))))))))).mono ?_
          rintro e w3 ⟨v4, rfl, hQ4, hG3⟩
          have g23 : G w2 w3 := G.trans (by (repeat' (first | (with_reducible exact G.refl _) | (with_reducible refine G.drewN ?_ _) | (with_reducible refine G.drew ?_) | (with_reducible refine G.alloc ?_ _)))) hG3
          unfold LensQ at hQ4
          rw [if_pos HK0.out] at hQ4
          obtain ⟨pb, pd, rfl, hIB⟩ := hQ4
          rw [HK0.out, HM.out]
          go_wp2_with fail
          refine (known_any _).mono ?_
          rintro x w4 ⟨rfl, hG4⟩
          have g34 : G w3 w4 := G.trans (by (repeat' (first | (with_reducible exact G.refl _) | (with_reducible refine G.drewN ?_ _) | (with_reducible refine G.drew ?_) | (with_reducible refine G.alloc ?_ _)))) hG4
          have g24 : G w2 w4 := g23.trans g34
          have g4 : G w1 w4 := g2.trans g24
          have HIB := Lib.hid (hIB.later g34)
          clear hIB hG3 hG4
          have HLL := Lib.hid (show (lens l 0 r).length = 130 by rw [lens_len]; exact HM.out)
          have HRG := Lib.hid (fun (j : Nat) (t : Tu) (h : l[j]? = some t) => show 0 ≤ t.f ∧ 1 ≤ t.c ∧ t.f + t.c ≤ (130 : Int) ∧ Rt t.n by
            have hone := (ckT_ok HCK.out).2.2.2.1 t (List.mem_of_getElem? h)
            unfold InR at hone
            exact ⟨hone.2.1, hone.1, by omega, hone.2.2.2.2.1⟩)
          obtain ⟨i0, hi0, hz0, hz1, hz2⟩ := info_parts' iInfo
          go_wp2_with fail
          go_loopg [10, 11] 20 (fun q y z wr => ∃ (i : Nat) (v : Value) (Us : List Int), v = y ∧ z = .int .i64 i ∧ q = 20 - i ∧ i ≤ 20 ∧ Hid (Us.length = i) ∧ Hid (∀ j t, j < i → l[j]? = some t → UK t (l.drop (j + 1)) r ∧ Us[j]? = some (lgI l r t j)) ∧ Hid (Row inE 3 1 w4.heap.size wr v Us) ∧ G w4 wr)
          case atStart => exact ⟨0, _, [], rfl, rfl, by omega, by omega, Lib.hid rfl, Lib.hid (fun j t h => by omega), Lib.hid (Row.nil (enc := inE) w4), by (repeat' (first | (with_reducible exact G.refl _) | (with_reducible assumption) | (with_reducible refine G.drewN ?_ _) | (with_reducible refine G.drew ?_) | (with_reducible refine G.alloc ?_ _) | (with_reducible refine G.setCell ?_ (by first | (with_reducible exact Nat.le_refl _) | (simp; done) | (simp; omega) | omega) _) | (with_reducible refine G.trans ?_ (by assumption))))⟩
          case round =>
            obtain ⟨i, v, Us, rfl, rfl, hq, hi', hUL, hA, hR, gr⟩ := hrel
            have HQ := Lib.hid hq
            clear hq
            by_cases hin : i < 20
            · obtain ⟨⟨f, cc, aa, nn⟩, hp⟩ : ∃ z, l[i]? = some z := ⟨l[i]'(by have := HN.out; omega), List.getElem?_eq_getElem (by have := HN.out; omega)⟩
              have HP := Lib.hid hp
              have b1 : (0 : Int) ≤ (i : Int) := by omega
              have b2 : (i : Int) < (20 : Int) := by omega
              have q1 := IntWalk.i64_in ((i : Int) + 1) (by have := HK.out; omega)
              have HU := Lib.hid (hua.out i _ hp)
              clear hp
              go_wp2_with fail
              refine (rUnit_any a2 b l r 20 c2 130 d i f cc aa nn _ HN.out HK.out HM.out HM2.out (H3.out.later (g4.trans (gr.trans (by (repeat' (first | (with_reducible exact G.refl _) | (with_reducible assumption) | (with_reducible refine G.drewN ?_ _) | (with_reducible refine G.drew ?_) | (with_reducible refine G.alloc ?_ _) | (with_reducible refine G.setCell ?_ (by first | (with_reducible exact Nat.le_refl _) | (simp; done) | (simp; omega) | omega) _) | (with_reducible refine G.trans ?_ (by assumption)))))))) (H2.out.later (g1.trans (g4.trans (gr.trans (by (repeat' (first | (with_reducible exact G.refl _) | (with_reducible assumption) | (with_reducible refine G.drewN ?_ _) | (with_reducible refine G.drew ?_) | (with_reducible refine G.alloc ?_ _) | (with_reducible refine G.setCell ?_ (by first | (with_reducible exact Nat.le_refl _) | (simp; done) | (simp; omega) | omega) _) | (with_reducible refine G.trans ?_ (by assumption))))))))) HCK.out HIN.out HP.out).mono ?_
              rintro x w5 ⟨hD, hG5⟩
              rcases hD with ⟨_, rfl⟩ | ⟨hno, _⟩
              rotate_left
              · exact absurd HU.out hno
              have g5 : G wr w5 := G.trans (by (repeat' (first | (with_reducible exact G.refl _) | (with_reducible refine G.drewN ?_ _) | (with_reducible refine G.drew ?_) | (with_reducible refine G.alloc ?_ _)))) hG5
              obtain ⟨Y, hY⟩ : ∃ z : Int, Hid (lgI l r ⟨f, cc, aa, nn⟩ i = z) := ⟨_, rfl⟩
              rw [hY.out]
              go_wp2_with (at_builtin; refine wpList_append_own _ rfl _ _ 40 rfl w4.heap.size 3 i0 (.int .i64 0) 1 8 Try.underlying40 hi0 hz0 hz1 hz2 rfl (by decide) v Us.length (Us.flatMap inE) rfl (hR.out.later (show G wr _ by (repeat' (first | (with_reducible exact G.refl _) | (with_reducible assumption) | (with_reducible refine G.drewN ?_ _) | (with_reducible refine G.drew ?_) | (with_reducible refine G.alloc ?_ _) | (with_reducible refine G.setCell ?_ (by first | (with_reducible exact Nat.le_refl _) | (simp; done) | (simp; omega) | omega) _) | (with_reducible refine G.trans ?_ (by assumption)))))) ⟨w5.heap.size, 0, none⟩ 1 1 [.int .i64 Y] rfl rfl (new_add _ _ [.int .i64 Y] _ (by simp [go_sem])) (by simp [Value.oneCell']) (by unfold maxLen; rw [hUL.out]; have := HK.out; omega) (by rw [hUL.out]; have := HK.out; omega) (by have := gr.size; have := g5.size; simp [go_sem]; omega) ?_; intro v' w6 hown' hgrow _)
              have RN := Lib.hid (Row.more (enc := inE) (M := Us) (x := Y) hown')
              have gN : G w4 w6 := Below.grown (B := w4.heap.size) (show G w4 _ from gr.trans (g5.trans (by (repeat' (first | (with_reducible exact G.refl _) | (with_reducible assumption) | (with_reducible refine G.drewN ?_ _) | (with_reducible refine G.drew ?_) | (with_reducible refine G.alloc ?_ _) | (with_reducible refine G.setCell ?_ (by first | (with_reducible exact Nat.le_refl _) | (simp; done) | (simp; omega) | omega) _) | (with_reducible refine G.trans ?_ (by assumption))))))) hgrow (by have := gr.size; have := g5.size; simp [go_sem]; omega) (fun k hk => hR.out.own k hk)
              go_roundg (20 - (i + 1))
              case measure => have := HQ.out; omega
              case rel => exact ⟨i + 1, v', Us ++ [Y], rfl, by first | rfl | go_num, rfl, by omega, Lib.hid (by rw [List.length_append, hUL.out]; rfl), Lib.hid (fun j t hj hjt => by
                by_cases e : j = i
                · subst e
                  rw [HP.out] at hjt
                  obtain rfl := Option.some.inj hjt
                  exact ⟨HU.out, by rw [List.getElem?_append_right (by rw [hUL.out]; exact Nat.le_refl _), hUL.out, Nat.sub_self, hY.out]; rfl⟩
                · have h := hA.out j t (by omega) hjt
                  exact ⟨h.1, by rw [List.getElem?_append_left (by rw [hUL.out]; omega)]; exact h.2⟩), Lib.hid RN.out, gN⟩
            · have hii : i = 20 := by omega
              obtain ⟨a3, c3, rfl, hI3⟩ := hR.out.ints
              have HUL := Lib.hid (show Us.length = 20 by rw [hUL.out, hii])
              have HUA := Lib.hid (fun (j : Nat) (t : Tu) (h : l[j]? = some t) => (hA.out j t (by have := (List.getElem?_eq_some_iff.1 h).1; have := HN.out; omega) h).2)
              rw [HUL.out]
              have HI3 := Lib.hid hI3
              have hji := hii.symm
              clear hI3 hR hA hin
              subst hji
              clear hUL
              go_wp2_with fail
              go_loopg [14] 20 (fun q x wr2 => ∃ i : Nat, x = .int .i64 i ∧ q = 20 - i ∧ i ≤ 20 ∧ G wr wr2)
              case atStart => exact ⟨0, rfl, by omega, by omega, by (repeat' (first | (with_reducible exact G.refl _) | (with_reducible assumption) | (with_reducible refine G.drewN ?_ _) | (with_reducible refine G.drew ?_) | (with_reducible refine G.alloc ?_ _) | (with_reducible refine G.setCell ?_ (by first | (with_reducible exact Nat.le_refl _) | (simp; done) | (simp; omega) | omega) _) | (with_reducible refine G.trans ?_ (by assumption))))⟩
              case round =>
                obtain ⟨j, rfl, hq2, hj, gr2⟩ := hrel
                have HQ2 := Lib.hid hq2
                clear hq2
                by_cases hjn : j < 20
                · obtain ⟨t, hp⟩ : ∃ z, l[j]? = some z := ⟨l[j]'(by have := HN.out; omega), List.getElem?_eq_getElem (by have := HN.out; omega)⟩
                  have hx := HUA.out j t hp
                  rcases HI3.out with hz | ⟨b7, o7, rfl, f7⟩
                  · rw [hz] at hx; simp at hx
                  have y0 := (g24.trans (gr.trans gr2)).at (hcell.out j t hp)
                  have y1 := gr2.at (f7 j _ hx)
                  obtain ⟨Y, hY⟩ : ∃ z : Int, Hid (lgI l r t j = z) := ⟨_, rfl⟩
                  rw [hY.out] at y0 y1
                  have b1 : (0 : Int) ≤ (j : Int) := by omega
                  have b2 : (j : Int) < (20 : Int) := by omega
                  have q1 := IntWalk.i64_in ((j : Int) + 1) (by have := HK.out; omega)
                  clear f7 hx hp
                  go_wp2_with fail
                  go_big_region
                  all_goals
                    go_wp2_with fail
                    go_roundg (20 - (j + 1))
                    case measure => have := HQ2.out; omega
                    case rel => exact ⟨j + 1, by go_num, rfl, by omega, by (repeat' (first | (with_reducible exact G.refl _) | (with_reducible assumption) | (with_reducible refine G.drewN ?_ _) | (with_reducible refine G.drew ?_) | (with_reducible refine G.alloc ?_ _) | (with_reducible refine G.setCell ?_ (by first | (with_reducible exact Nat.le_refl _) | (simp; done) | (simp; omega) | omega) _) | (with_reducible refine G.trans ?_ (by assumption))))⟩
                · have b2 : ¬ (j : Int) < (20 : Int) := by omega
                  go_wp2_with fail
                  go_loopg [15] 20 (fun q x wr3 => ∃ i : Nat, x = .int .i64 i ∧ q = 20 - i ∧ i ≤ 20 ∧ G wr wr3)
                  case atStart => exact ⟨0, rfl, by omega, by omega, by (repeat' (first | (with_reducible exact G.refl _) | (with_reducible assumption) | (with_reducible refine G.drewN ?_ _) | (with_reducible refine G.drew ?_) | (with_reducible refine G.alloc ?_ _) | (with_reducible refine G.setCell ?_ (by first | (with_reducible exact Nat.le_refl _) | (simp; done) | (simp; omega) | omega) _) | (with_reducible refine G.trans ?_ (by assumption))))⟩
                  case round =>
                    obtain ⟨k, rfl, hq3, hk', gr3⟩ := hrel
                    have HQ3 := Lib.hid hq3
                    clear hq3 b2
                    by_cases hkn : k < 20
                    · obtain ⟨⟨f, cc, aa, nn⟩, hp⟩ : ∃ z, l[k]? = some z := ⟨l[k]'(by have := HN.out; omega), List.getElem?_eq_getElem (by have := HN.out; omega)⟩
                      rcases H3.out with hz | ⟨b3', o3, rfl, f3⟩
                      · rw [hz] at hp; simp at hp
                      have HP := Lib.hid hp
                      have X3 := Lib.hid (f3 k _ hp)
                      have HR1 := Lib.hid (show 0 ≤ f ∧ 1 ≤ cc ∧ f + cc ≤ (130 : Int) ∧ Rt nn from HRG.out k _ hp)
                      have b3 : (0 : Int) ≤ (k : Int) := by omega
                      have b4 : (k : Int) < (20 : Int) := by omega
                      go_wp2_with fail
                      go_loopg [16, 17] k (fun q x y wr4 => ∃ (j : Nat) (B : Bool), x = .bool B ∧ y = .int .i64 j ∧ q = k - j ∧ j ≤ k ∧ Hid (B = true ↔ ∀ u, u ∈ l.take j → ¬ Wi ⟨f, cc, aa, nn⟩ u) ∧ G wr wr4)
                      case atStart => exact ⟨0, true, rfl, rfl, by omega, by omega, Lib.hid ⟨fun _ u hu => by simp at hu, fun _ => rfl⟩, by (repeat' (first | (with_reducible exact G.refl _) | (with_reducible assumption) | (with_reducible refine G.drewN ?_ _) | (with_reducible refine G.drew ?_) | (with_reducible refine G.alloc ?_ _) | (with_reducible refine G.setCell ?_ (by first | (with_reducible exact Nat.le_refl _) | (simp; done) | (simp; omega) | omega) _) | (with_reducible refine G.trans ?_ (by assumption))))⟩
                      case round =>
                        obtain ⟨j, B, rfl, rfl, hq4, hj4, HB, gr4⟩ := hrel
                        have HQ4 := Lib.hid hq4
                        clear hq4
                        by_cases hjk : j < k
                        · obtain ⟨⟨f', c', a', n'⟩, hp2⟩ : ∃ z, l[j]? = some z := ⟨l[j]'(by have := HN.out; omega), List.getElem?_eq_getElem (by have := HN.out; omega)⟩
                          have X3 := Lib.hid (f3 k _ hp)
                          have X4 := Lib.hid (f3 j _ hp2)
                          have gx := g4.trans (gr.trans (gr2.trans (gr3.trans gr4)))
                          obtain ⟨x0, x1, x2, x3⟩ := X3.out.later gx
                          obtain ⟨y0, y1, y2, y3⟩ := X4.out.later gx
                          dsimp only at x0 x1 x2 x3 y0 y1 y2 y3
                          have HTK := Lib.hid (show l.take (j + 1) = l.take j ++ [⟨f', c', a', n'⟩] by rw [List.take_add_one, hp2]; rfl)
                          have HR1 := Lib.hid (HRG.out k _ hp)
                          have HR2 := Lib.hid (HRG.out j _ hp2)
                          have b5 : (0 : Int) ≤ (j : Int) := by omega
                          have b6 : (j : Int) < (20 : Int) := by omega
                          have b7 : (j : Int) < (k : Int) := by omega
                          have q2 := IntWalk.i64_in ((j : Int) + 1) (by have := HK.out; omega)
                          have HJK := Lib.hid hjk
                          clear hp2 gx hjk
                          cases B with
                          | false =>
                            go_wp2_with fail
                            go_big_region
                            all_goals
                              go_wp2_with fail
                              go_roundg (k - (j + 1))
                              case measure => have := HQ4.out; have := HJK.out; omega
                              case rel => exact ⟨j + 1, false, rfl, by go_num, rfl, by have := HJK.out; omega, Lib.hid ⟨fun h => (by cases h), fun h => HB.out.2 (fun u hu => h u (by rw [HTK.out]; exact List.mem_append_left _ hu))⟩, gr4.trans (by (repeat' (first | (with_reducible exact G.refl _) | (with_reducible assumption) | (with_reducible refine G.drewN ?_ _) | (with_reducible refine G.drew ?_) | (with_reducible refine G.alloc ?_ _) | (with_reducible refine G.setCell ?_ (by first | (with_reducible exact Nat.le_refl _) | (simp; done) | (simp; omega) | omega) _) | (with_reducible refine G.trans ?_ (by assumption)))))⟩
                          | true =>
                            by_cases hw : Wi ⟨f, cc, aa, nn⟩ ⟨f', c', a', n'⟩
                            · have HW := Lib.hid hw
                              clear hw
                              go_wp2_with fail
                              go_region_held3 (fun w' => w'.cell? ⟨b3', o3 + k * 4, none⟩ = some (.int .i64 f) ∧ w'.cell? ⟨b3', o3 + k * 4 + 1, none⟩ = some (.int .i64 cc) ∧ w'.cell? ⟨b3', o3 + k * 4 + 2, none⟩ = some (.int .i64 aa) ∧ w'.cell? ⟨b3', o3 + k * 4 + 3, none⟩ = some (.int .i64 nn) ∧ w'.cell? ⟨b3', o3 + j * 4, none⟩ = some (.int .i64 f') ∧ w'.cell? ⟨b3', o3 + j * 4 + 1, none⟩ = some (.int .i64 c') ∧ w'.cell? ⟨b3', o3 + j * 4 + 2, none⟩ = some (.int .i64 a') ∧ w'.cell? ⟨b3', o3 + j * 4 + 3, none⟩ = some (.int .i64 n'))
                                (first | (with_reducible assumption) | ((try dsimp only); (repeat' (with_reducible apply And.intro)) <;> go_simp))
                                (first | (go_at_call 31; refine (rWithin_any _ _ _ _ _ _ _ _ _ (by have := HR1.out; have := HM2.out; omega) (by have := HR2.out; have := HM2.out; omega)).mono ?_; rintro x w5 ⟨rfl, hG5⟩; rw [decide_eq_true HW.out]; have gq : G wr w5 := G.trans (by (repeat' (first | (with_reducible exact G.refl _) | (with_reducible refine G.drewN ?_ _) | (with_reducible refine G.drew ?_) | (with_reducible refine G.alloc ?_ _)))) hG5; have X0 := gq.at x0; have X1 := gq.at x1; have X2 := gq.at x2; have X3 := gq.at x3; have Y0 := gq.at y0; have Y1 := gq.at y1; have Y2 := gq.at y2; have Y3 := gq.at y3))
                              all_goals
                                go_wp2_with fail
                                go_roundg (k - (j + 1))
                                case measure => have := HQ4.out; have := HJK.out; omega
                                case rel => exact ⟨j + 1, false, rfl, by go_num, rfl, by have := HJK.out; omega, Lib.hid ⟨fun h => (by cases h), fun h => absurd HW.out (h _ (by rw [HTK.out]; exact List.mem_append_right _ (List.mem_singleton.2 rfl)))⟩, gr4.trans (gq.trans (by (repeat' (first | (with_reducible exact G.refl _) | (with_reducible assumption) | (with_reducible refine G.drewN ?_ _) | (with_reducible refine G.drew ?_) | (with_reducible refine G.alloc ?_ _) | (with_reducible refine G.setCell ?_ (by first | (with_reducible exact Nat.le_refl _) | (simp; done) | (simp; omega) | omega) _) | (with_reducible refine G.trans ?_ (by assumption))))))⟩
                            · have HW := Lib.hid hw
                              clear hw
                              go_wp2_with fail
                              go_region_held3 (fun w' => w'.cell? ⟨b3', o3 + k * 4, none⟩ = some (.int .i64 f) ∧ w'.cell? ⟨b3', o3 + k * 4 + 1, none⟩ = some (.int .i64 cc) ∧ w'.cell? ⟨b3', o3 + k * 4 + 2, none⟩ = some (.int .i64 aa) ∧ w'.cell? ⟨b3', o3 + k * 4 + 3, none⟩ = some (.int .i64 nn) ∧ w'.cell? ⟨b3', o3 + j * 4, none⟩ = some (.int .i64 f') ∧ w'.cell? ⟨b3', o3 + j * 4 + 1, none⟩ = some (.int .i64 c') ∧ w'.cell? ⟨b3', o3 + j * 4 + 2, none⟩ = some (.int .i64 a') ∧ w'.cell? ⟨b3', o3 + j * 4 + 3, none⟩ = some (.int .i64 n'))
                                (first | (with_reducible assumption) | ((try dsimp only); (repeat' (with_reducible apply And.intro)) <;> go_simp))
                                (first | (go_at_call 31; refine (rWithin_any _ _ _ _ _ _ _ _ _ (by have := HR1.out; have := HM2.out; omega) (by have := HR2.out; have := HM2.out; omega)).mono ?_; rintro x w5 ⟨rfl, hG5⟩; rw [decide_eq_false HW.out]; have gq : G wr w5 := G.trans (by (repeat' (first | (with_reducible exact G.refl _) | (with_reducible refine G.drewN ?_ _) | (with_reducible refine G.drew ?_) | (with_reducible refine G.alloc ?_ _)))) hG5; have X0 := gq.at x0; have X1 := gq.at x1; have X2 := gq.at x2; have X3 := gq.at x3; have Y0 := gq.at y0; have Y1 := gq.at y1; have Y2 := gq.at y2; have Y3 := gq.at y3))
                              all_goals
                                go_wp2_with fail
                                go_roundg (k - (j + 1))
                                case measure => have := HQ4.out; have := HJK.out; omega
                                case rel => exact ⟨j + 1, true, rfl, by go_num, rfl, by have := HJK.out; omega, Lib.hid ⟨fun _ u hu => by
                                  rw [HTK.out] at hu
                                  rcases List.mem_append.1 hu with h | h
                                  · exact HB.out.1 (by first | rfl | trivial) u h
                                  · rw [List.mem_singleton.1 h]; exact HW.out, fun _ => rfl⟩, gr4.trans (gq.trans (by (repeat' (first | (with_reducible exact G.refl _) | (with_reducible assumption) | (with_reducible refine G.drewN ?_ _) | (with_reducible refine G.drew ?_) | (with_reducible refine G.alloc ?_ _) | (with_reducible refine G.setCell ?_ (by first | (with_reducible exact Nat.le_refl _) | (simp; done) | (simp; omega) | omega) _) | (with_reducible refine G.trans ?_ (by assumption))))))⟩
                        · have hjk2 : k = j := by omega
                          have b7 : ¬ (j : Int) < (k : Int) := by omega
                          subst hjk2
                          clear hp
                          go_wp2_with fail
                          go_loopg [18, 19] 130 (fun q x y wr5 => ∃ e : Nat, x = .int .i64 (sumU ⟨f, cc, aa, nn⟩ (gL l r) e) ∧ y = .int .i64 e ∧ q = 130 - e ∧ e ≤ 130 ∧ G wr wr5)
                          case atStart => exact ⟨0, rfl, rfl, by omega, by omega, by (repeat' (first | (with_reducible exact G.refl _) | (with_reducible assumption) | (with_reducible refine G.drewN ?_ _) | (with_reducible refine G.drew ?_) | (with_reducible refine G.alloc ?_ _) | (with_reducible refine G.setCell ?_ (by first | (with_reducible exact Nat.le_refl _) | (simp; done) | (simp; omega) | omega) _) | (with_reducible refine G.trans ?_ (by assumption))))⟩
                          case round =>
                            obtain ⟨e, rfl, rfl, hq5, he5, gr5⟩ := hrel
                            have HQ5 := Lib.hid hq5
                            clear hq5
                            by_cases hem : e < 130
                            · obtain ⟨x, hx⟩ : ∃ z, (lens l 0 r)[e]? = some z := ⟨(lens l 0 r)[e]'(by have := HLL.out; omega), List.getElem?_eq_getElem (by have := HLL.out; omega)⟩
                              rcases HIB.out with hz | ⟨b9, o9, rfl, f9⟩
                              · rw [hz] at hx; simp at hx
                              have gx := gr.trans (gr2.trans (gr3.trans (gr4.trans gr5)))
                              have xr := gx.at (f9 e _ hx)
                              obtain ⟨x0, x1, x2, x3⟩ := X3.out.later (g4.trans gx)
                              dsimp only at x0 x1 x2 x3
                              have HGL := Lib.hid (gL_at hx)
                              have HSN := Lib.hid (show sumU ⟨f, cc, aa, nn⟩ (gL l r) (e + 1) = sumU ⟨f, cc, aa, nn⟩ (gL l r) e + (if InT ⟨f, cc, aa, nn⟩ e then gL l r e else 0) from rfl)
                              have hsb2 := sumL_bd (t := ⟨f, cc, aa, nn⟩) (l := l) (r := r) (ckT_fit HCK.out) (e + 1)
                              obtain ⟨S, hS⟩ : ∃ z : Int, Hid (sumU ⟨f, cc, aa, nn⟩ (gL l r) e = z) := ⟨_, rfl⟩
                              rw [hS.out] at HSN ⊢
                              have HSB := Lib.hid hsb2
                              have b5 : (0 : Int) ≤ (e : Int) := by omega
                              have b6 : (e : Int) < (130 : Int) := by omega
                              have q2 := IntWalk.i64_in ((e : Int) + 1) (by have := HM2.out; omega)
                              have HEM := Lib.hid hem
                              clear f9 hx hsb2 gx hem
                              by_cases hit : InT ⟨f, cc, aa, nn⟩ e
                              · have HS2 := Lib.hid (show sumU ⟨f, cc, aa, nn⟩ (gL l r) (e + 1) = S + x by rw [HSN.out, if_pos hit, HGL.out])
                                have q3 := IntWalk.i64_in (S + x) (by
                                  have := HSB.out
                                  rw [HS2.out] at this
                                  have := HM2.out
                                  omega)
                                have HD := Lib.hid (decide_eq_true hit)
                                clear hit
                                go_wp2_with fail
                                refine (rIn_any f cc aa nn e _ (by have := HR1.out; have := HM2.out; omega) (by have := HR1.out; have := HM2.out; omega)).mono ?_
                                rintro y w6 ⟨rfl, hG6⟩
                                have g6 : G wr w6 := G.trans (by (repeat' (first | (with_reducible exact G.refl _) | (with_reducible refine G.drewN ?_ _) | (with_reducible refine G.drew ?_) | (with_reducible refine G.alloc ?_ _)))) hG6
                                replace xr := g6.at xr
                                rw [HD.out]
                                go_wp2_with fail
                                go_roundg (130 - (e + 1))
                                case measure => have := HQ5.out; have := HEM.out; omega
                                case rel => exact ⟨e + 1, by rw [HS2.out], by go_num, rfl, by have := HEM.out; omega, gr5.trans (g6.trans (by (repeat' (first | (with_reducible exact G.refl _) | (with_reducible assumption) | (with_reducible refine G.drewN ?_ _) | (with_reducible refine G.drew ?_) | (with_reducible refine G.alloc ?_ _) | (with_reducible refine G.setCell ?_ (by first | (with_reducible exact Nat.le_refl _) | (simp; done) | (simp; omega) | omega) _) | (with_reducible refine G.trans ?_ (by assumption))))))⟩
                              · have HS2 := Lib.hid (show sumU ⟨f, cc, aa, nn⟩ (gL l r) (e + 1) = S by rw [HSN.out, if_neg hit, Int.add_zero])
                                have HD := Lib.hid (decide_eq_false hit)
                                clear hit
                                go_wp2_with fail
                                refine (rIn_any f cc aa nn e _ (by have := HR1.out; have := HM2.out; omega) (by have := HR1.out; have := HM2.out; omega)).mono ?_
                                rintro y w6 ⟨rfl, hG6⟩
                                have g6 : G wr w6 := G.trans (by (repeat' (first | (with_reducible exact G.refl _) | (with_reducible refine G.drewN ?_ _) | (with_reducible refine G.drew ?_) | (with_reducible refine G.alloc ?_ _)))) hG6
                                rw [HD.out]
                                go_wp2_with fail
                                go_roundg (130 - (e + 1))
                                case measure => have := HQ5.out; have := HEM.out; omega
                                case rel => exact ⟨e + 1, by rw [HS2.out], by go_num, rfl, by have := HEM.out; omega, gr5.trans (g6.trans (by (repeat' (first | (with_reducible exact G.refl _) | (with_reducible assumption) | (with_reducible refine G.drewN ?_ _) | (with_reducible refine G.drew ?_) | (with_reducible refine G.alloc ?_ _) | (with_reducible refine G.setCell ?_ (by first | (with_reducible exact Nat.le_refl _) | (simp; done) | (simp; omega) | omega) _) | (with_reducible refine G.trans ?_ (by assumption))))))⟩
                            · have hee : e = 130 := by omega
                              have HEE := Lib.hid (show sumU ⟨f, cc, aa, nn⟩ (gL l r) e = sumU ⟨f, cc, aa, nn⟩ (gL l r) r.length by rw [HM.out, hee])
                              obtain ⟨S, hS⟩ : ∃ z : Int, Hid (sumU ⟨f, cc, aa, nn⟩ (gL l r) e = z) := ⟨_, rfl⟩
                              rw [hS.out]
                              have hje := hee.symm
                              subst hje
                              have q2 := IntWalk.i64_in ((k : Int) + 1) (by have := HK.out; omega)
                              clear hem
                              cases B with
                              | false =>
                                go_wp2_with fail
                                go_big_region
                                all_goals
                                  go_wp2_with fail
                                  go_roundg (20 - (k + 1))
                                  case measure => have := HQ3.out; omega
                                  case rel => exact ⟨k + 1, by go_num, rfl, by omega, gr3.trans (gr4.trans (gr5.trans (by (repeat' (first | (with_reducible exact G.refl _) | (with_reducible assumption) | (with_reducible refine G.drewN ?_ _) | (with_reducible refine G.drew ?_) | (with_reducible refine G.alloc ?_ _) | (with_reducible refine G.setCell ?_ (by first | (with_reducible exact Nat.le_refl _) | (simp; done) | (simp; omega) | omega) _) | (with_reducible refine G.trans ?_ (by assumption)))))))⟩
                              | true =>
                                obtain ⟨kk, hkk, e1, e2⟩ := unit_sum HK0.out HP.out (HB.out.1 rfl) (hua.out k _ HP.out)
                                have gx := gr.trans (gr2.trans (gr3.trans (gr4.trans gr5)))
                                obtain ⟨x0, x1, x2, x3⟩ := X3.out.later (g4.trans gx)
                                dsimp only at x0 x1 x2 x3
                                have yk := (g24.trans gx).at (hcell.out k _ HP.out)
                                rw [e1] at yk
                                have hsz := sz_bd kk
                                have hpw := shr_pow kk hkk
                                have hmin : min kk 64 = kk := by omega
                                have j5 : (kk : Int) - 1 + 1 = (kk : Int) := by omega
                                have j4 := IntWalk.i64_in (kk : Int) (by omega)
                                have j3 := IntWalk.i64_in ((kk : Int) - 1 + 1) (by omega)
                                have hrn := HR1.out.2.2.2
                                obtain ⟨n0, n1⟩ := hrn
                                have p1 : sz kk * nn ≤ 3870720 * 32 := Int.mul_le_mul hsz.2 n1 (by omega) (by omega)
                                have p2 : 0 ≤ sz kk * nn := Int.mul_nonneg hsz.1 (by omega)
                                have q3 := IntWalk.i64_in (sz kk * nn) (by omega)
                                have q4 := IntWalk.wrap64_in (sz kk * nn) (by omega)
                                have q5 := IntWalk.i64_in (sz kk) (by omega)
                                have q6 := IntWalk.wrap64_in (sz kk) (by omega)
                                have hSV : S = sz kk * nn := by rw [← hS.out, HEE.out, e2]
                                have hs2 : (S == sz kk * nn) = true := by rw [hSV]; simp
                                have hs3 : (S != sz kk * nn) = false := by simp [bne, hs2]
                                have HSV := Lib.hid hSV
                                have HKK := Lib.hid (And.intro hkk hsz)
                                clear e1 e2 hkk hsz p1 p2 hSV gx
                                go_wp2_with fail
                                go_big_region
                                all_goals
                                  go_wp2_with fail
                                  go_roundg (20 - (k + 1))
                                  case measure => have := HQ3.out; omega
                                  case rel => exact ⟨k + 1, by go_num, rfl, by omega, gr3.trans (gr4.trans (gr5.trans (by (repeat' (first | (with_reducible exact G.refl _) | (with_reducible assumption) | (with_reducible refine G.drewN ?_ _) | (with_reducible refine G.drew ?_) | (with_reducible refine G.alloc ?_ _) | (with_reducible refine G.setCell ?_ (by first | (with_reducible exact Nat.le_refl _) | (simp; done) | (simp; omega) | omega) _) | (with_reducible refine G.trans ?_ (by assumption)))))))⟩
                    · have b2 : ¬ (k : Int) < (20 : Int) := by omega
                      go_wp2_with fail
                      go_ret
                      exact ⟨by first | rfl | simp, g1.trans (g4.trans (gr.trans (gr2.trans (gr3.trans (by (repeat' (first | (with_reducible exact G.refl _) | (with_reducible assumption) | (with_reducible refine G.drewN ?_ _) | (with_reducible refine G.drew ?_) | (with_reducible refine G.alloc ?_ _) | (with_reducible refine G.setCell ?_ (by first | (with_reducible exact Nat.le_refl _) | (simp; done) | (simp; omega) | omega) _) | (with_reducible refine G.trans ?_ (by assumption)))))))))⟩
        · have hun := Lib.hid hun0
          clear hun0
          have HK0 := Lib.hid hk
          have HCK := Lib.hid (show ckT 130 l = 0 by have := (lensT_ok hk).1; rwa [HM.out] at this)
          have HIN := Lib.hid (fun (i : Nat) x (h : r[i]? = some x) => lensT_in hk h)
          clear hk
          go_wp2_with fail
          refine (rLengths_any a2 b l r 20 c2 130 d _ HN.out HM.out HM2.out (H3.out.later (g2.trans (by (repeat' (first | (with_reducible exact G.refl _) | (with_reducible assumption) | (with_reducible refine G.drewN ?_ _) | (with_reducible refine G.drew ?_) | (with_reducible refine G.alloc ?_ _) | (with_reducible refine G.setCell ?_ (by first | (with_reducible exact Nat.le_refl _) | (simp; done) | (simp; omega) | omega) _) | (with_reducible refine G.trans ?_ (by assumption))))))) (H2.out.later (g1.trans (g2.trans (by (repeat' (first | (with_reducible exact G.refl _) | (with_reducible assumption) | (with_reducible refine G.drewN ?_ _) | (with_reducible refine G.drew ?_) | (with_reducible refine G.alloc ?_ _) | (with_reducible refine G.setCell ?_ (by first | (with_reducible exact Nat.le_refl _) | (simp; done) | (simp; omega) | omega) _) | (with_reducible refine G.trans ?_ (by assumption))))))))).mono ?_
          rintro e w3 ⟨v4, rfl, hQ4, hG3⟩
          have g23 : G w2 w3 := G.trans (by (repeat' (first | (with_reducible exact G.refl _) | (with_reducible refine G.drewN ?_ _) | (with_reducible refine G.drew ?_) | (with_reducible refine G.alloc ?_ _)))) hG3
          unfold LensQ at hQ4
          rw [if_pos HK0.out] at hQ4
          obtain ⟨pb, pd, rfl, hIB⟩ := hQ4
          rw [HK0.out, HM.out]
          go_wp2_with fail
          refine (known_any _).mono ?_
          rintro x w4 ⟨rfl, hG4⟩
          have g34 : G w3 w4 := G.trans (by (repeat' (first | (with_reducible exact G.refl _) | (with_reducible refine G.drewN ?_ _) | (with_reducible refine G.drew ?_) | (with_reducible refine G.alloc ?_ _)))) hG4
          have g24 : G w2 w4 := g23.trans g34
          have g4 : G w1 w4 := g2.trans g24
          have HIB := Lib.hid (hIB.later g34)
          clear hIB hG3 hG4
          obtain ⟨i0, hi0, hz0, hz1, hz2⟩ := info_parts' iInfo
          go_wp2_with fail
          go_loopg [10, 11] 20 (fun q y z wr => ∃ (i : Nat) (v : Value) (Us : List Int), v = y ∧ z = .int .i64 i ∧ q = 20 - i ∧ i ≤ 20 ∧ Hid (Us.length = i) ∧ Hid (∀ j t, j < i → l[j]? = some t → UK t (l.drop (j + 1)) r ∧ Us[j]? = some (lgI l r t j)) ∧ Hid (Row inE 3 1 w4.heap.size wr v Us) ∧ G w4 wr)
          case atStart => exact ⟨0, _, [], rfl, rfl, by omega, by omega, Lib.hid rfl, Lib.hid (fun j t h => by omega), Lib.hid (Row.nil (enc := inE) w4), by (repeat' (first | (with_reducible exact G.refl _) | (with_reducible assumption) | (with_reducible refine G.drewN ?_ _) | (with_reducible refine G.drew ?_) | (with_reducible refine G.alloc ?_ _) | (with_reducible refine G.setCell ?_ (by first | (with_reducible exact Nat.le_refl _) | (simp; done) | (simp; omega) | omega) _) | (with_reducible refine G.trans ?_ (by assumption))))⟩
          case round =>
            obtain ⟨i, v, Us, rfl, rfl, hq, hi', hUL, hA, hR, gr⟩ := hrel
            have HQ := Lib.hid hq
            clear hq
            by_cases hin : i < 20
            · obtain ⟨⟨f, cc, aa, nn⟩, hp⟩ : ∃ z, l[i]? = some z := ⟨l[i]'(by have := HN.out; omega), List.getElem?_eq_getElem (by have := HN.out; omega)⟩
              have HP := Lib.hid hp
              have b1 : (0 : Int) ≤ (i : Int) := by omega
              have b2 : (i : Int) < (20 : Int) := by omega
              have q1 := IntWalk.i64_in ((i : Int) + 1) (by have := HK.out; omega)
              clear hp
              by_cases hu : UK ⟨f, cc, aa, nn⟩ (l.drop (i + 1)) r
              · have HU := Lib.hid hu
                clear hu
                go_wp2_with fail
                refine (rUnit_any a2 b l r 20 c2 130 d i f cc aa nn _ HN.out HK.out HM.out HM2.out (H3.out.later (g4.trans (gr.trans (by (repeat' (first | (with_reducible exact G.refl _) | (with_reducible assumption) | (with_reducible refine G.drewN ?_ _) | (with_reducible refine G.drew ?_) | (with_reducible refine G.alloc ?_ _) | (with_reducible refine G.setCell ?_ (by first | (with_reducible exact Nat.le_refl _) | (simp; done) | (simp; omega) | omega) _) | (with_reducible refine G.trans ?_ (by assumption)))))))) (H2.out.later (g1.trans (g4.trans (gr.trans (by (repeat' (first | (with_reducible exact G.refl _) | (with_reducible assumption) | (with_reducible refine G.drewN ?_ _) | (with_reducible refine G.drew ?_) | (with_reducible refine G.alloc ?_ _) | (with_reducible refine G.setCell ?_ (by first | (with_reducible exact Nat.le_refl _) | (simp; done) | (simp; omega) | omega) _) | (with_reducible refine G.trans ?_ (by assumption))))))))) HCK.out HIN.out HP.out).mono ?_
                rintro x w5 ⟨hD, hG5⟩
                rcases hD with ⟨_, rfl⟩ | ⟨hno, _⟩
                rotate_left
                · exact absurd HU.out hno
                have g5 : G wr w5 := G.trans (by (repeat' (first | (with_reducible exact G.refl _) | (with_reducible refine G.drewN ?_ _) | (with_reducible refine G.drew ?_) | (with_reducible refine G.alloc ?_ _)))) hG5
                obtain ⟨Y, hY⟩ : ∃ z : Int, Hid (lgI l r ⟨f, cc, aa, nn⟩ i = z) := ⟨_, rfl⟩
                rw [hY.out]
                go_wp2_with (at_builtin; refine wpList_append_own _ rfl _ _ 40 rfl w4.heap.size 3 i0 (.int .i64 0) 1 8 Try.underlying40 hi0 hz0 hz1 hz2 rfl (by decide) v Us.length (Us.flatMap inE) rfl (hR.out.later (show G wr _ by (repeat' (first | (with_reducible exact G.refl _) | (with_reducible assumption) | (with_reducible refine G.drewN ?_ _) | (with_reducible refine G.drew ?_) | (with_reducible refine G.alloc ?_ _) | (with_reducible refine G.setCell ?_ (by first | (with_reducible exact Nat.le_refl _) | (simp; done) | (simp; omega) | omega) _) | (with_reducible refine G.trans ?_ (by assumption)))))) ⟨w5.heap.size, 0, none⟩ 1 1 [.int .i64 Y] rfl rfl (new_add _ _ [.int .i64 Y] _ (by simp [go_sem])) (by simp [Value.oneCell']) (by unfold maxLen; rw [hUL.out]; have := HK.out; omega) (by rw [hUL.out]; have := HK.out; omega) (by have := gr.size; have := g5.size; simp [go_sem]; omega) ?_; intro v' w6 hown' hgrow _)
                have RN := Lib.hid (Row.more (enc := inE) (M := Us) (x := Y) hown')
                have gN : G w4 w6 := Below.grown (B := w4.heap.size) (show G w4 _ from gr.trans (g5.trans (by (repeat' (first | (with_reducible exact G.refl _) | (with_reducible assumption) | (with_reducible refine G.drewN ?_ _) | (with_reducible refine G.drew ?_) | (with_reducible refine G.alloc ?_ _) | (with_reducible refine G.setCell ?_ (by first | (with_reducible exact Nat.le_refl _) | (simp; done) | (simp; omega) | omega) _) | (with_reducible refine G.trans ?_ (by assumption))))))) hgrow (by have := gr.size; have := g5.size; simp [go_sem]; omega) (fun k hk => hR.out.own k hk)
                go_roundg (20 - (i + 1))
                case measure => have := HQ.out; omega
                case rel => exact ⟨i + 1, v', Us ++ [Y], rfl, by first | rfl | go_num, rfl, by omega, Lib.hid (by rw [List.length_append, hUL.out]; rfl), Lib.hid (fun j t hj hjt => by
                  by_cases e : j = i
                  · subst e
                    rw [HP.out] at hjt
                    obtain rfl := Option.some.inj hjt
                    exact ⟨HU.out, by rw [List.getElem?_append_right (by rw [hUL.out]; exact Nat.le_refl _), hUL.out, Nat.sub_self, hY.out]; rfl⟩
                  · have h := hA.out j t (by omega) hjt
                    exact ⟨h.1, by rw [List.getElem?_append_left (by rw [hUL.out]; omega)]; exact h.2⟩), Lib.hid RN.out, gN⟩
              · have HU := Lib.hid hu
                clear hu
                go_wp2_with fail
                refine (rUnit_any a2 b l r 20 c2 130 d i f cc aa nn _ HN.out HK.out HM.out HM2.out (H3.out.later (g4.trans (gr.trans (by (repeat' (first | (with_reducible exact G.refl _) | (with_reducible assumption) | (with_reducible refine G.drewN ?_ _) | (with_reducible refine G.drew ?_) | (with_reducible refine G.alloc ?_ _) | (with_reducible refine G.setCell ?_ (by first | (with_reducible exact Nat.le_refl _) | (simp; done) | (simp; omega) | omega) _) | (with_reducible refine G.trans ?_ (by assumption)))))))) (H2.out.later (g1.trans (g4.trans (gr.trans (by (repeat' (first | (with_reducible exact G.refl _) | (with_reducible assumption) | (with_reducible refine G.drewN ?_ _) | (with_reducible refine G.drew ?_) | (with_reducible refine G.alloc ?_ _) | (with_reducible refine G.setCell ?_ (by first | (with_reducible exact Nat.le_refl _) | (simp; done) | (simp; omega) | omega) _) | (with_reducible refine G.trans ?_ (by assumption))))))))) HCK.out HIN.out HP.out).mono ?_
                rintro x w5 ⟨hD, hG5⟩
                rcases hD with ⟨hyes, _⟩ | ⟨_, rfl⟩
                · exact absurd hyes HU.out
                have g5 : G wr w5 := G.trans (by (repeat' (first | (with_reducible exact G.refl _) | (with_reducible refine G.drewN ?_ _) | (with_reducible refine G.drew ?_) | (with_reducible refine G.alloc ?_ _)))) hG5
                go_wp2_with fail
                go_ret
                exact ⟨by first | rfl | simp, g1.trans (g4.trans (gr.trans (g5.trans (by (repeat' (first | (with_reducible exact G.refl _) | (with_reducible assumption) | (with_reducible refine G.drewN ?_ _) | (with_reducible refine G.drew ?_) | (with_reducible refine G.alloc ?_ _) | (with_reducible refine G.setCell ?_ (by first | (with_reducible exact Nat.le_refl _) | (simp; done) | (simp; omega) | omega) _) | (with_reducible refine G.trans ?_ (by assumption))))))))⟩
            · exact absurd (show UKall l r from fun j t hjt => (hA.out j t (by have := (List.getElem?_eq_some_iff.1 hjt).1; have := HN.out; omega) hjt).1) hun.out

/-! ### the row and the card -/
open Go.ChangeShapes Go.WideShapes Go.ChangeAt Go.RowKit
set_option maxRecDepth 100000 in
theorem tupletUnits_lifted (os : Os) (started : os.Started) (H : Type) (enc : TypeId × Value → H) :
    ReturnsInHanded {} Try.checked os 10 .any (Rows.tupletUnitsSpec.pre6 enc Try.prog Try.f10 Rows.tupletUnitsRow.domain false)
      (Rows.tupletUnitsSpec.post enc Try.prog Try.f10 false true false false) := by
  refine returnsInHanded_of_change (C := Try.checked) own started (by kernel_rfl) Try.func10
    (ChangeSpec.witness6 (enc := enc) (C := Try.checked) false ⟨#[], #[.slice none 0 0, .slice none 0 0], []⟩ 8 (by kernel_rfl) (by kernel_rfl) (by kernel_rfl) (by kernel_rfl)) ?_
  intro W base args ds gs before hval0 hW _ _
  have hval : ∀ (j : Nat) t v, Try.f10.params[j]? = some t → args[j]? = some v → Value.okWide Try.prog W .any base t v := hval0
  have hW' := hW
  obtain ⟨p, q, hA0, hV, rfl, hfz, hnd⟩ := hW
  have hA : DataW.TrodAll enc Try.prog W 0 (fun _ => true) true Try.f10.params.toList args.toList ds p := hA0
  rw [Try.params10] at hA hval
  obtain ⟨v0, vs0, d0, ds0, p0, q0, hargs, rfl, rfl, h0, r0⟩ := trodAll_cons hA
  obtain ⟨v1, vs1, d1, ds1, p1, q1, rfl, rfl, rfl, h1, r1⟩ := trodAll_cons r0
  obtain ⟨rfl, rfl, rfl⟩ := trodAll_nil r1
  obtain rfl : args = #[v0, v1] := by cases args; simp_all
  obtain ⟨rfl, rfl⟩ := trodVars_none hV
  have keep0 := h0
  obtain ⟨a0, cap0, l0, rfl, lc0, mc0, la0, wf0, lz0⟩ := open_tusArg (hval 0 22 v0 rfl rfl) h0
  have keep1 := h1
  obtain ⟨a1, cap1, l1, rfl, lc1, mc1, la1, wf1, lz1⟩ := open_intsArg (hval 1 40 v1 rfl rfl) h1
  clear hA0 hval0
  simp only [List.append_nil] at hW'
  have hlt0 : ∀ x ∈ p0, x.block < W.heap.size := fun x hx => by have := hW'.lt x (by simp [hx]); simpa using this
  have hlt1 : ∀ x ∈ p1, x.block < W.heap.size := fun x hx => by have := hW'.lt x (by simp [hx]); simpa using this
  refine (units_walk a0 l0 cap0 a1 l1 cap1 W lc0 mc0 la0 lz0 wf0 lc1 mc1 la1 lz1  ).mono fun e W' ⟨he, hg⟩ => ?_
  subst he
  exact ⟨_, rfl, _, _, _, [], (p0 ++ (p1 ++ [])), [], hW', (trodAll_cons_mk (shut_bool Try.underlying4 _) trodAll_mk0), (trodAll_cons_mk (Below.trod (by kernel_rfl) (by kernel_rfl) (of_decide_eq_true (by kernel_rfl)) keep0 hg hlt0) (trodAll_cons_mk (Below.trod (by kernel_rfl) (by kernel_rfl) (of_decide_eq_true (by kernel_rfl)) keep1 hg hlt1) trodAll_mk0)), rfl, Below.frame hg _, fun h => by cases h⟩

theorem tupletUnits_holds : Rows.TupletUnitsSaid :=
  OpenClaim.holds_of_wide 10 Try.f10 rfl rfl rfl rfl rfl rfl rfl ⟨rfl, rfl, rfl, rfl, rfl⟩ rfl rfl rfl rfl rfl (by kernel_rfl) Try.func10 (by kernel_rfl)
    (of_decide_eq_true (by kernel_rfl)) (by unfold Func.isWrapper; first | (rw [if_pos (by decide +kernel)]; kernel_rfl) | (rw [if_neg (by decide +kernel)]; exact ⟨rfl, rfl⟩))
    (fun os started H enc _ => tupletUnits_lifted os started H enc)

#print axioms tupletUnits_holds
end Go.Proofs.Ytabaiklagobimaa
