import Derived.Test.YtabaiklagobimaaT21
import Derived.BigRegion
/-! Tuplets: the units, of the program. -/
namespace Go.Proofs.Ytabaiklagobimaa
open Go.RowKit
attribute [local go_sem] World.cell?_alloc_some

theorem unit_yes {f c a n : Int} {A b : Option Addr} {L : List Tu} {r : List Int} {m cA k d : Nat} (w : World) (hm : L.length = m) (hm2 : m ≤ 20) (h1 : TusAt w A L) (hF : Fit L) (hk : r.length = k) (hk2 : k ≤ 1000) (h2 : IntsAt w b r)
    (ht : 0 ≤ f ∧ 1 ≤ c ∧ f + c ≤ k ∧ Rt a) (hu : UK ⟨f, c, a, n⟩ L r) :
    Calls Try.prog 50 #[.agg #[.int .i64 f, .int .i64 c, .int .i64 a, .int .i64 n], .slice A m cA, .slice b k d] w fun x w' => x = .returned (.tuple #[.int .i64 (lgT (uS ⟨f, c, a, n⟩ L r) a), .int .i64 0]) ∧ G w w' :=
  (unit_any f c a n A b L r m cA k d w hm hm2 h1 hF hk hk2 h2 ht).mono fun x w' h => by
    rcases h with ⟨⟨_, h⟩ | ⟨h, _⟩, g⟩
    · exact ⟨h, g⟩
    · exact absurd hu h
theorem unit_no {f c a n : Int} {A b : Option Addr} {L : List Tu} {r : List Int} {m cA k d : Nat} (w : World) (hm : L.length = m) (hm2 : m ≤ 20) (h1 : TusAt w A L) (hF : Fit L) (hk : r.length = k) (hk2 : k ≤ 1000) (h2 : IntsAt w b r)
    (ht : 0 ≤ f ∧ 1 ≤ c ∧ f + c ≤ k ∧ Rt a) (hu : ¬ UK ⟨f, c, a, n⟩ L r) :
    Calls Try.prog 50 #[.agg #[.int .i64 f, .int .i64 c, .int .i64 a, .int .i64 n], .slice A m cA, .slice b k d] w fun x w' => x = .returned (.tuple #[.int .i64 0, .int .i64 21]) ∧ G w w' :=
  (unit_any f c a n A b L r m cA k d w hm hm2 h1 hF hk hk2 h2 ht).mono fun x w' h => by
    rcases h with ⟨⟨h, _⟩ | ⟨_, h⟩, g⟩
    · exact absurd h hu
    · exact ⟨h, g⟩
theorem tus_rest {w : World} {b o i : Nat} {l : List Tu} (h : ∀ (i : Nat) (t : Tu), l[i]? = some t → Tu4 w b (o + i * 4) t) : TusAt w (some ⟨b, o + (i + 1) * 4, none⟩) (l.drop (i + 1)) :=
  .inr ⟨b, o + (i + 1) * 4, rfl, fun j t ht => by
    rw [List.getElem?_drop] at ht
    have := h _ t ht
    rwa [Nat.add_mul, ← Nat.add_assoc] at this⟩
/-- the unit of a tuplet, by its place -/
def lgI (l : List Tu) (r : List Int) (t : Tu) (i : Nat) : Int := lgT (uS t (l.drop (i + 1)) r) t.a
def UKall (l : List Tu) (r : List Int) : Prop := ∀ (i : Nat) (t : Tu), l[i]? = some t → UK t (l.drop (i + 1)) r

set_option maxRecDepth 100000 in
set_option maxHeartbeats 12800000 in
theorem Units_any (a b : Option Addr) (l : List Tu) (r : List Int) (n c m d : Nat) (w : World) (hn : l.length = n) (hnc : n ≤ c) (hm : r.length = m) (hm2 : m ≤ 1000) (h1 : TusAt w a l) (hc : CB l) (h2 : IntsAt w b r) :
    Calls Try.prog 32 #[.slice a n c, .slice b m d] w fun e w' => ((lensT l r ≠ 0 ∧ e = .returned (.tuple #[.slice none 0 0, .int .i64 (lensT l r)])) ∨ (lensT l r = 0 ∧ UKall l r ∧ ∃ g, e = .returned (.tuple #[.slice (some ⟨g, 0, none⟩) n n, .int .i64 0]) ∧ ∀ i t, l[i]? = some t → w'.cell? ⟨g, i, none⟩ = some (.int .i64 (lgI l r t i))) ∨ (lensT l r = 0 ∧ ¬ UKall l r ∧ e = .returned (.tuple #[.slice none 0 0, .int .i64 21]))) ∧ G w w' := by
  have H1 := Lib.hid h1
  have H2 := Lib.hid h2
  have HC := Lib.hid hc
  have HN := Lib.hid (And.intro hn (And.intro hnc (And.intro hm hm2)))
  clear h1 h2 hc
  by_cases hk : lensT l r = 0
  rotate_left
  · obtain ⟨E, hE⟩ : ∃ z : Int, Hid (lensT l r = z) := ⟨_, rfl⟩
    have HNK := Lib.hid hk
    rw [hE.out] at hk
    have e3 : (E == 0) = false := beq_false_of_ne hk
    have e4 : (E != 0) = true := by simp [bne, e3]
    clear hk
    go_enter Try.func32, Try.ntmps32
    go_wp2_with fail
    refine (tLengths_any a b l r n c m d _ HN.out.1 HN.out.2.2.1 HN.out.2.2.2 (H1.out.later (by (repeat' (first | (with_reducible exact G.refl _) | (with_reducible assumption) | (with_reducible refine G.drewN ?_ _) | (with_reducible refine G.drew ?_) | (with_reducible refine G.alloc ?_ _) | (with_reducible refine G.setCell ?_ (by first | (with_reducible exact Nat.le_refl _) | (simp; done) | (simp; omega) | omega) _) | (with_reducible refine G.trans ?_ (by assumption)))))) HC.out (H2.out.later (by (repeat' (first | (with_reducible exact G.refl _) | (with_reducible assumption) | (with_reducible refine G.drewN ?_ _) | (with_reducible refine G.drew ?_) | (with_reducible refine G.alloc ?_ _) | (with_reducible refine G.setCell ?_ (by first | (with_reducible exact Nat.le_refl _) | (simp; done) | (simp; omega) | omega) _) | (with_reducible refine G.trans ?_ (by assumption))))))).mono ?_
    rintro e w1 ⟨v, rfl, hR, hG⟩
    have hQ := hR.q
    unfold LensQ at hQ
    rw [if_neg HNK.out] at hQ
    subst hQ
    rw [hE.out]
    clear hR
    go_wp2_with fail
    go_returns
    exact ⟨.inl ⟨HNK.out, by rw [hE.out]; first | done | rfl⟩, by (repeat' (first | (with_reducible exact G.refl _) | (with_reducible assumption) | (with_reducible refine G.drewN ?_ _) | (with_reducible refine G.drew ?_) | (with_reducible refine G.alloc ?_ _) | (with_reducible refine G.setCell ?_ (by first | (with_reducible exact Nat.le_refl _) | (simp; done) | (simp; omega) | omega) _) | (with_reducible refine G.trans ?_ (by assumption))))⟩
  have HK := Lib.hid hk
  have hck : ckT r.length l = 0 := by
    unfold lensT at hk
    by_cases h : ckT r.length l = 0
    · exact h
    · rw [if_neg h] at hk; exact absurd hk h
  have HCK := Lib.hid hck
  have HKO := Lib.hid (ckT_ok hck)
  have hn16 : n ≤ 16 := by have := (ckT_ok hck).2.1; omega
  have hmk := make_ints n (by omega)
  have HN16 := Lib.hid hn16
  clear hk hck hn16 hn hnc hm hm2
  go_enter Try.func32, Try.ntmps32
  go_wp2_with fail
  refine (tLengths_any a b l r n c m d _ HN.out.1 HN.out.2.2.1 HN.out.2.2.2 (H1.out.later (by (repeat' (first | (with_reducible exact G.refl _) | (with_reducible assumption) | (with_reducible refine G.drewN ?_ _) | (with_reducible refine G.drew ?_) | (with_reducible refine G.alloc ?_ _) | (with_reducible refine G.setCell ?_ (by first | (with_reducible exact Nat.le_refl _) | (simp; done) | (simp; omega) | omega) _) | (with_reducible refine G.trans ?_ (by assumption)))))) HC.out (H2.out.later (by (repeat' (first | (with_reducible exact G.refl _) | (with_reducible assumption) | (with_reducible refine G.drewN ?_ _) | (with_reducible refine G.drew ?_) | (with_reducible refine G.alloc ?_ _) | (with_reducible refine G.setCell ?_ (by first | (with_reducible exact Nat.le_refl _) | (simp; done) | (simp; omega) | omega) _) | (with_reducible refine G.trans ?_ (by assumption))))))).mono ?_
  rintro e w1 ⟨v, rfl, hR, hG⟩
  have hQ := hR.q
  unfold LensQ at hQ
  rw [if_pos HK.out] at hQ
  obtain ⟨pa, pc, rfl, _⟩ := hQ
  rw [HK.out]
  clear hR
  have g1 : G w w1 := G.trans (by (repeat' (first | (with_reducible exact G.refl _) | (with_reducible refine G.drewN ?_ _) | (with_reducible refine G.drew ?_) | (with_reducible refine G.alloc ?_ _)))) hG
  go_wp2_with fail
  have c0 := Lib.hid (IA.new w1 n 3)
  have g0 : G w (w1.alloc (.cells (madeCells #[.int .i64 0] n) 3)) := by (repeat' (first | (with_reducible exact G.refl _) | (with_reducible assumption) | (with_reducible refine G.drewN ?_ _) | (with_reducible refine G.drew ?_) | (with_reducible refine G.alloc ?_ _) | (with_reducible refine G.setCell ?_ (by first | (with_reducible exact Nat.le_refl _) | (simp; done) | (simp; omega) | omega) _) | (with_reducible refine G.trans ?_ (by assumption))))
  have gs : w.heap.size ≤ w1.heap.size := g1.size
  clear hmk
  generalize w1.alloc (.cells (madeCells #[.int .i64 0] n) 3) = W at *
  obtain ⟨g, hg⟩ : ∃ z : Nat, Hid (w1.heap.size = z) := ⟨_, rfl⟩
  rw [hg.out] at c0 gs ⊢
  have HGS := Lib.hid gs
  go_loopg [27] n (fun q x wr => ∃ (i : Nat) (F : Nat → Int), x = .int .i64 i ∧ q = n - i ∧ i ≤ n ∧ Hid (∀ j t, j < i → l[j]? = some t → UK t (l.drop (j + 1)) r ∧ F j = lgI l r t j) ∧ Hid (IA wr g n F) ∧ G w wr)
  case atStart => exact ⟨0, _, rfl, by omega, by omega, Lib.hid (fun j t h => by omega), c0, g0⟩
  case round =>
    obtain ⟨i, F, rfl, hq, hi, hA, hIA, gr⟩ := hrel
    have HQ := Lib.hid hq
    clear hq
    by_cases hin : i < n
    · obtain ⟨⟨f, cc, aa, nn⟩, hp⟩ : ∃ z, l[i]? = some z := ⟨l[i]'(by have := HN.out; omega), List.getElem?_eq_getElem (by have := HN.out; omega)⟩
      rcases H1.out with hz | ⟨b0, of, rfl, fc⟩
      · rw [hz] at hp; simp at hp
      have FC := Lib.hid fc
      obtain ⟨x0, x1, x2, x3⟩ := (fc i _ hp).later gr
      dsimp only at x0 x1 x2 x3
      have HP := Lib.hid hp
      have hone := HKO.out.2.2.2.1 _ (List.mem_of_getElem? hp)
      have HT := Lib.hid (show 0 ≤ f ∧ 1 ≤ cc ∧ f + cc ≤ (m : Int) ∧ Rt aa by have := HN.out; unfold InR at hone; dsimp only at hone; exact ⟨hone.2.1, hone.1, by omega, hone.2.2.2.1⟩)
      have HFD := Lib.hid (ckT_fitD HCK.out (i + 1))
      have HDL := Lib.hid (show (l.drop (i + 1)).length = n - (i + 1) by rw [List.length_drop]; have := HN.out; omega)
      have b1 : (0 : Int) ≤ (i : Int) := by omega
      have b2 : (i : Int) < (n : Int) := by omega
      have b3 : (0 : Int) ≤ (i : Int) + 1 := by omega
      have b4 : (i : Int) + 1 ≤ (n : Int) := by omega
      have b5 : i + 1 ≤ n := by omega
      have b6 : i + 1 ≤ c := by have := HN.out; omega
      have b7 : (i : Int) + 1 ≤ (c : Int) := by omega
      have b8 : ((i : Int) + 1).toNat = i + 1 := by omega
      have b9 : n ≤ c := HN.out.2.1
      have ba : (n : Int) ≤ (c : Int) := by omega
      have q1 := IntWalk.i64_in ((i : Int) + 1) (by have := HN16.out; omega)
      have HIN := Lib.hid hin
      obtain ⟨BT, hBT⟩ : ∃ z : Nat, Hid (wr.heap.size = z) := ⟨_, rfl⟩
      obtain ⟨WT, hWT⟩ : ∃ z : World, Hid (wr.alloc (.cells #[.int .i64 f, .int .i64 cc, .int .i64 aa, .int .i64 nn] 52) = z) := ⟨_, rfl⟩
      have gT : G wr WT := by rw [← hWT.out]; (repeat' (first | (with_reducible exact G.refl _) | (with_reducible refine G.drewN ?_ _) | (with_reducible refine G.drew ?_) | (with_reducible refine G.alloc ?_ _)))
      have HZ := Lib.hid (show Tu4 WT BT 0 ⟨f, cc, aa, nn⟩ by
        obtain ⟨y0, y1, y2, y3⟩ := four_at (W := wr) (n := BT) (a := .int .i64 f) (b := .int .i64 cc) (c := .int .i64 aa) (d := .int .i64 nn) (t := 52) hBT.out (by rw [hWT.out]; exact G.refl _)
        exact ⟨y0, y1, y2, y3⟩)
      obtain ⟨t0, t1, t2, t3⟩ := HZ.out
      dsimp only [Nat.zero_add] at t0 t1 t2 t3
      obtain ⟨AD, hAD, hTA⟩ : ∃ z, (if c = i + 1 then some ⟨b0, of, none⟩ else some ⟨b0, of + (i + 1) * 4, none⟩ : Option Addr) = z ∧ TusAt w z (l.drop (i + 1)) := ⟨_, rfl, by
        split
        · rename_i h; exact .inl (List.drop_of_length_le (by have := HN.out; omega))
        · exact tus_rest (i := i) fc⟩
      have HTA := Lib.hid hTA
      clear hTA
      have IA2 := Lib.hid (hIA.out.later gT)
      clear fc hp hone hin
      by_cases hu : UK ⟨f, cc, aa, nn⟩ (l.drop (i + 1)) r
      · have HU := Lib.hid hu
        clear hu
        go_wp2_with fail
        rw [hWT.out, hBT.out]
        go_wp2_with fail
        go_region_held3 (fun w' => w'.cell? ⟨BT, 0, none⟩ = some (.int .i64 f) ∧ w'.cell? ⟨BT, 1, none⟩ = some (.int .i64 cc) ∧ w'.cell? ⟨BT, 2, none⟩ = some (.int .i64 aa) ∧ w'.cell? ⟨BT, 3, none⟩ = some (.int .i64 nn))
          (first | (with_reducible assumption) | ((try dsimp only); (repeat' (with_reducible apply And.intro)) <;> go_simp))
          (first | (go_at_call 50; refine (unit_yes _ HDL.out (by have := HN16.out; omega) (HTA.out.later (gr.trans (gT.trans (by (repeat' (first | (with_reducible exact G.refl _) | (with_reducible assumption) | (with_reducible refine G.drewN ?_ _) | (with_reducible refine G.drew ?_) | (with_reducible refine G.alloc ?_ _) | (with_reducible refine G.setCell ?_ (by first | (with_reducible exact Nat.le_refl _) | (simp; done) | (simp; omega) | omega) _) | (with_reducible refine G.trans ?_ (by assumption)))))))) HFD.out HN.out.2.2.1 HN.out.2.2.2 (H2.out.later (gr.trans (gT.trans (by (repeat' (first | (with_reducible exact G.refl _) | (with_reducible assumption) | (with_reducible refine G.drewN ?_ _) | (with_reducible refine G.drew ?_) | (with_reducible refine G.alloc ?_ _) | (with_reducible refine G.setCell ?_ (by first | (with_reducible exact Nat.le_refl _) | (simp; done) | (simp; omega) | omega) _) | (with_reducible refine G.trans ?_ (by assumption)))))))) HT.out HU.out).mono ?_; rintro x w3 ⟨rfl, hG3⟩; have gq : G WT w3 := G.trans (by (repeat' (first | (with_reducible exact G.refl _) | (with_reducible refine G.drewN ?_ _) | (with_reducible refine G.drew ?_) | (with_reducible refine G.alloc ?_ _)))) hG3; have T0 := gq.at t0; have T1 := gq.at t1; have T2 := gq.at t2; have T3 := gq.at t3))
        all_goals
          have A3 := Lib.hid (IA2.out.later gq)
          obtain ⟨y0, y1⟩ := A3.out i HIN.out
          go_wp2_with fail
          go_roundg (n - (i + 1))
          case measure => have := HQ.out; have := HIN.out; omega
          case rel => exact ⟨i + 1, updN F i (lgI l r ⟨f, cc, aa, nn⟩ i), by first | rfl | go_num, rfl, by omega, Lib.hid (fun j t hj hjt => by
            by_cases e : j = i
            · subst e
              rw [HP.out] at hjt
              obtain rfl := Option.some.inj hjt
              exact ⟨HU.out, if_pos rfl⟩
            · have h := hA.out j t (by omega) hjt
              exact ⟨h.1, (if_neg e).trans h.2⟩), Lib.hid (by first | exact A3.out.set HIN.out _ | exact (A3.out.later (by (repeat' (first | (with_reducible exact G.refl _) | (with_reducible refine G.drewN ?_ _) | (with_reducible refine G.drew ?_) | (with_reducible refine G.alloc ?_ _))))).set HIN.out _), G.setCell (gr.trans (gT.trans (gq.trans (by (repeat' (first | (with_reducible exact G.refl _) | (with_reducible assumption) | (with_reducible refine G.drewN ?_ _) | (with_reducible refine G.drew ?_) | (with_reducible refine G.alloc ?_ _) | (with_reducible refine G.setCell ?_ (by first | (with_reducible exact Nat.le_refl _) | (simp; done) | (simp; omega) | omega) _) | (with_reducible refine G.trans ?_ (by assumption)))))))) (by exact HGS.out) _⟩
      · have HU := Lib.hid hu
        have HNA := Lib.hid (show ¬ UKall l r from fun h => hu (h i _ HP.out))
        clear hu
        go_wp2_with fail
        rw [hWT.out, hBT.out]
        go_wp2_with fail
        go_region_held3 (fun w' => w'.cell? ⟨BT, 0, none⟩ = some (.int .i64 f) ∧ w'.cell? ⟨BT, 1, none⟩ = some (.int .i64 cc) ∧ w'.cell? ⟨BT, 2, none⟩ = some (.int .i64 aa) ∧ w'.cell? ⟨BT, 3, none⟩ = some (.int .i64 nn))
          (first | (with_reducible assumption) | ((try dsimp only); (repeat' (with_reducible apply And.intro)) <;> go_simp))
          (first | (go_at_call 50; refine (unit_no _ HDL.out (by have := HN16.out; omega) (HTA.out.later (gr.trans (gT.trans (by (repeat' (first | (with_reducible exact G.refl _) | (with_reducible assumption) | (with_reducible refine G.drewN ?_ _) | (with_reducible refine G.drew ?_) | (with_reducible refine G.alloc ?_ _) | (with_reducible refine G.setCell ?_ (by first | (with_reducible exact Nat.le_refl _) | (simp; done) | (simp; omega) | omega) _) | (with_reducible refine G.trans ?_ (by assumption)))))))) HFD.out HN.out.2.2.1 HN.out.2.2.2 (H2.out.later (gr.trans (gT.trans (by (repeat' (first | (with_reducible exact G.refl _) | (with_reducible assumption) | (with_reducible refine G.drewN ?_ _) | (with_reducible refine G.drew ?_) | (with_reducible refine G.alloc ?_ _) | (with_reducible refine G.setCell ?_ (by first | (with_reducible exact Nat.le_refl _) | (simp; done) | (simp; omega) | omega) _) | (with_reducible refine G.trans ?_ (by assumption)))))))) HT.out HU.out).mono ?_; rintro x w3 ⟨rfl, hG3⟩; have gq : G WT w3 := G.trans (by (repeat' (first | (with_reducible exact G.refl _) | (with_reducible refine G.drewN ?_ _) | (with_reducible refine G.drew ?_) | (with_reducible refine G.alloc ?_ _)))) hG3; have T0 := gq.at t0; have T1 := gq.at t1; have T2 := gq.at t2; have T3 := gq.at t3))
        all_goals
          go_wp2_with fail
          go_returns
          exact ⟨.inr (.inr ⟨HK.out, HNA.out, rfl⟩), gr.trans (gT.trans (gq.trans (by (repeat' (first | (with_reducible exact G.refl _) | (with_reducible assumption) | (with_reducible refine G.drewN ?_ _) | (with_reducible refine G.drew ?_) | (with_reducible refine G.alloc ?_ _) | (with_reducible refine G.setCell ?_ (by first | (with_reducible exact Nat.le_refl _) | (simp; done) | (simp; omega) | omega) _) | (with_reducible refine G.trans ?_ (by assumption)))))))⟩
    · have hii : i = n := by omega
      have HALL := Lib.hid (show UKall l r from fun j t hj => (hA.out j t (by have := (List.getElem?_eq_some_iff.1 hj).1; have := HN.out; omega) hj).1)
      have HCE := Lib.hid (show ∀ j t, l[j]? = some t → wr.cell? ⟨g, j, none⟩ = some (.int .i64 (lgI l r t j)) from fun j t hj => by
        have hlt : j < n := by have := (List.getElem?_eq_some_iff.1 hj).1; have := HN.out; omega
        rw [(hIA.out j hlt).1, (hA.out j t (by omega) hj).2])
      subst hii
      go_wp2_with fail
      go_returns
      exact ⟨.inr (.inl ⟨HK.out, HALL.out, g, rfl, fun j t hj => G.at (by (repeat' (first | (with_reducible exact G.refl _) | (with_reducible assumption) | (with_reducible refine G.drewN ?_ _) | (with_reducible refine G.drew ?_) | (with_reducible refine G.alloc ?_ _) | (with_reducible refine G.setCell ?_ (by first | (with_reducible exact Nat.le_refl _) | (simp; done) | (simp; omega) | omega) _) | (with_reducible refine G.trans ?_ (by assumption))))) (HCE.out j t hj)⟩), by (repeat' (first | (with_reducible exact G.refl _) | (with_reducible assumption) | (with_reducible refine G.drewN ?_ _) | (with_reducible refine G.drew ?_) | (with_reducible refine G.alloc ?_ _) | (with_reducible refine G.setCell ?_ (by first | (with_reducible exact Nat.le_refl _) | (simp; done) | (simp; omega) | omega) _) | (with_reducible refine G.trans ?_ (by assumption))))⟩
end Go.Proofs.Ytabaiklagobimaa
