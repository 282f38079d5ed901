import Derived.Test.YtabaiklagobimaaT13
import Derived.Test.YtabaiklagobimaaR1
/-! Tuplets: the reference's Insert; equal lists. -/
namespace Go.Proofs.Ytabaiklagobimaa
open Go.RowKit
attribute [local go_sem] World.cell?_alloc_some

theorem four_fr {W w1 : World} {n : Nat} {a b c d : Value} {t : TypeId} (hs : W.heap.size = n) (h : G (W.alloc (.cells #[a, b, c, d] t)) w1) :
    w1.frozen? ⟨n, 0, none⟩ = false ∧ w1.frozen? ⟨n, 1, none⟩ = false := by
  subst hs
  refine ⟨?_, ?_⟩ <;> (rw [h.frozen (by simp)]; simp [go_sem])
theorem map_next {α β : Type} {F : α → β} {l : List α} {i : Nat} {t : α} (h : l[i]? = some t) : (l.take (i + 1)).map F = (l.take i).map F ++ [F t] := by
  rw [List.take_add_one, h, List.map_append]
  rfl
set_option maxRecDepth 100000 in
set_option maxHeartbeats 12800000 in
theorem rInsert_any (a : Option Addr) (l : List Tu) (n c : Nat) (at_ cnt : Int) (w : World) (hn : l.length = n) (hl : n ≤ 20) (h1 : TusAt w a l) (hb : ∀ t, t ∈ l → 0 ≤ t.f ∧ 0 ≤ t.c ∧ t.f + t.c ≤ 128) (hc : 0 ≤ cnt ∧ cnt ≤ 128) :
    Calls Try.prog 35 #[.slice a n c, .int .i64 at_, .int .i64 cnt] w fun e w' => ∃ v, e = .returned v ∧ Row tuE 39 4 w.heap.size w' v (l.map (insT at_ cnt)) ∧ G w w' := by
  obtain ⟨i0, hi0, hz0, hz1, hz2⟩ := info_parts' rInfo
  have H1 := Lib.hid h1
  have HB := Lib.hid hb
  have HC := Lib.hid hc
  have HN := Lib.hid (And.intro hn hl)
  clear h1 hb hc hn hl
  go_enter Try.func35, Try.ntmps35
  go_wp2_with fail
  go_loopg [7, 8] n (fun q y x wr => ∃ (i : Nat) (v : Value), v = y ∧ x = .int .i64 i ∧ q = n - i ∧ i ≤ n ∧ Hid (Row tuE 39 4 w.heap.size wr v ((l.take i).map (insT at_ cnt))) ∧ G w wr)
  case atStart => exact ⟨0, _, rfl, rfl, by omega, by omega, Lib.hid (by simpa using Row.nil (enc := tuE) w), by (repeat' (first | (with_reducible exact G.refl _) | (with_reducible assumption) | (with_reducible refine G.drewN ?_ _) | (with_reducible refine G.drew ?_) | (with_reducible refine G.alloc ?_ _) | (with_reducible refine G.setCell ?_ (by first | (with_reducible exact Nat.le_refl _) | (simp; done) | (simp; omega) | omega) _) | (with_reducible refine G.trans ?_ (by assumption))))⟩
  case round =>
    obtain ⟨i, v, rfl, rfl, hq, hi', hR, gr⟩ := hrel
    have HQ := Lib.hid hq
    clear hq
    by_cases hin : i < n
    · obtain ⟨⟨f, cc, aa, nn⟩, hp⟩ : ∃ z, l[i]? = some z := ⟨l[i]'(by have := HN.out; omega), List.getElem?_eq_getElem (by have := HN.out; omega)⟩
      rcases H1.out with hz | ⟨bl, of, rfl, fc⟩
      · rw [hz] at hp; simp at hp
      obtain ⟨x0, x1, x2, x3⟩ := (fc i _ hp).later gr
      dsimp only at x0 x1 x2 x3
      have HII := Lib.hid (HB.out _ (List.mem_of_getElem? hp))
      dsimp only at HII
      have HX := Lib.hid (map_next (F := insT at_ cnt) hp)
      have HLT := Lib.hid (show ((l.take i).map (insT at_ cnt)).length = i by rw [List.length_map, List.length_take]; have := HN.out; omega)
      have b1 : (0 : Int) ≤ (i : Int) := by omega
      have b2 : (i : Int) < (n : Int) := by omega
      have q1 := IntWalk.i64_in ((i : Int) + 1) (by have := HN.out; omega)
      have q2 := IntWalk.i64_in (f + cnt) (by have := HII.out; have := HC.out; omega)
      have q3 := IntWalk.i64_in (cc + cnt) (by have := HII.out; have := HC.out; omega)
      have HSZ := Lib.hid gr.size
      clear fc hp
      by_cases hat : at_ ≤ f
      · have HIT := Lib.hid (show insT at_ cnt ⟨f, cc, aa, nn⟩ = ⟨f + cnt, cc, aa, nn⟩ from if_pos hat)
        go_wp2_with (at_builtin; refine wpList_append_own _ rfl _ _ 27 rfl w.heap.size 39 i0 (.agg #[.int .i64 0, .int .i64 0, .int .i64 0, .int .i64 0]) 4 32 Try.underlying27 hi0 hz0 hz1 hz2 rfl (by decide) v ((l.take i).map (insT at_ cnt)).length (((l.take i).map (insT at_ cnt)).flatMap tuE) rfl (hR.out.later (show G wr _ by (repeat' (first | (with_reducible exact G.refl _) | (with_reducible assumption) | (with_reducible refine G.drewN ?_ _) | (with_reducible refine G.drew ?_) | (with_reducible refine G.alloc ?_ _) | (with_reducible refine G.setCell ?_ (by first | (with_reducible exact Nat.le_refl _) | (simp; done) | (simp; omega) | omega) _) | (with_reducible refine G.trans ?_ (by assumption)))))) ⟨wr.heap.size + 1, 0, none⟩ 1 1 [.int .i64 (f + cnt), .int .i64 (cc), .int .i64 aa, .int .i64 nn] rfl rfl (new_add _ _ [.int .i64 (f + cnt), .int .i64 (cc), .int .i64 aa, .int .i64 nn] _ (by simp [go_sem])) (by simp [Value.oneCell']) (by unfold maxLen; rw [HLT.out]; have := HN.out; omega) (by rw [HLT.out]; have := HN.out; omega) (by have := HSZ.out; simp [go_sem]; omega) ?_; intro v' w6 hown' hgrow _)
        have RN := Lib.hid (Row.more (enc := tuE) (M := (l.take i).map (insT at_ cnt)) (x := ⟨f + cnt, cc, aa, nn⟩) hown')
        have gN : G w w6 := Below.grown (B := w.heap.size) (show G w _ from gr.trans (by (repeat' (first | (with_reducible exact G.refl _) | (with_reducible assumption) | (with_reducible refine G.drewN ?_ _) | (with_reducible refine G.drew ?_) | (with_reducible refine G.alloc ?_ _) | (with_reducible refine G.setCell ?_ (by first | (with_reducible exact Nat.le_refl _) | (simp; done) | (simp; omega) | omega) _) | (with_reducible refine G.trans ?_ (by assumption)))))) hgrow (by have := HSZ.out; simp [go_sem]; omega) (fun k hk => hR.out.own k hk)
        go_roundg (n - (i + 1))
        case measure => have := HQ.out; omega
        case rel => exact ⟨i + 1, v', rfl, by first | rfl | go_num, rfl, by omega, Lib.hid (by rw [HX.out, HIT.out]; exact RN.out), gN⟩
      · by_cases hit : InT ⟨f, cc, aa, nn⟩ at_
        · have HIT := Lib.hid (show insT at_ cnt ⟨f, cc, aa, nn⟩ = ⟨f, cc + cnt, aa, nn⟩ from (if_neg hat).trans (if_pos hit))
          have HHH := Lib.hid hit
          clear hit
          go_wp2_with fail
          refine (rIn_any _ _ _ _ _ _ (by have := HII.out; omega) (by have := HII.out; omega)).mono ?_
          rintro x w4 ⟨rfl, hG4⟩
          rw [decide_eq_true HHH.out]
          have g4 : G wr w4 := G.trans (by (repeat' (first | (with_reducible exact G.refl _) | (with_reducible refine G.drewN ?_ _) | (with_reducible refine G.drew ?_) | (with_reducible refine G.alloc ?_ _)))) hG4
          obtain ⟨z0, z1, z2, z3⟩ := four_at rfl hG4
          obtain ⟨u0, u1⟩ := four_fr rfl hG4
          have HB4 := Lib.hid (cell_lt z0)
          clear x0 x1 x2 x3
          go_wp2_with (at_builtin; refine wpList_append_own _ rfl _ _ 27 rfl w.heap.size 39 i0 (.agg #[.int .i64 0, .int .i64 0, .int .i64 0, .int .i64 0]) 4 32 Try.underlying27 hi0 hz0 hz1 hz2 rfl (by decide) v ((l.take i).map (insT at_ cnt)).length (((l.take i).map (insT at_ cnt)).flatMap tuE) rfl (hR.out.later (show G wr _ by (repeat' (first | (with_reducible exact G.refl _) | (with_reducible assumption) | (with_reducible refine G.drewN ?_ _) | (with_reducible refine G.drew ?_) | (with_reducible refine G.alloc ?_ _) | (with_reducible refine G.setCell ?_ (by first | (with_reducible exact Nat.le_refl _) | (simp; done) | (simp; omega) | omega) _) | (with_reducible refine G.trans ?_ (by assumption)))))) ⟨w4.heap.size, 0, none⟩ 1 1 [.int .i64 (f), .int .i64 (cc + cnt), .int .i64 aa, .int .i64 nn] rfl rfl (new_add _ _ [.int .i64 (f), .int .i64 (cc + cnt), .int .i64 aa, .int .i64 nn] _ (by simp [go_sem])) (by simp [Value.oneCell']) (by unfold maxLen; rw [HLT.out]; have := HN.out; omega) (by rw [HLT.out]; have := HN.out; omega) (by have := HSZ.out; have := g4.size; simp [go_sem]; omega) ?_; intro v' w6 hown' hgrow _)
          have RN := Lib.hid (Row.more (enc := tuE) (M := (l.take i).map (insT at_ cnt)) (x := ⟨f, cc + cnt, aa, nn⟩) hown')
          have gN : G w w6 := Below.grown (B := w.heap.size) (show G w _ from gr.trans (by (repeat' (first | (with_reducible exact G.refl _) | (with_reducible assumption) | (with_reducible refine G.drewN ?_ _) | (with_reducible refine G.drew ?_) | (with_reducible refine G.alloc ?_ _) | (with_reducible refine G.setCell ?_ (by first | (with_reducible exact Nat.le_refl _) | (simp; done) | (simp; omega) | omega) _) | (with_reducible refine G.trans ?_ (by assumption)))))) hgrow (by have := HSZ.out; have := g4.size; simp [go_sem]; omega) (fun k hk => hR.out.own k hk)
          go_roundg (n - (i + 1))
          case measure => have := HQ.out; omega
          case rel => exact ⟨i + 1, v', rfl, by first | rfl | go_num, rfl, by omega, Lib.hid (by rw [HX.out, HIT.out]; exact RN.out), gN⟩
        · have HIT := Lib.hid (show insT at_ cnt ⟨f, cc, aa, nn⟩ = ⟨f, cc, aa, nn⟩ from (if_neg hat).trans (if_neg hit))
          have HHH := Lib.hid hit
          clear hit
          go_wp2_with fail
          refine (rIn_any _ _ _ _ _ _ (by have := HII.out; omega) (by have := HII.out; omega)).mono ?_
          rintro x w4 ⟨rfl, hG4⟩
          rw [decide_eq_false HHH.out]
          have g4 : G wr w4 := G.trans (by (repeat' (first | (with_reducible exact G.refl _) | (with_reducible refine G.drewN ?_ _) | (with_reducible refine G.drew ?_) | (with_reducible refine G.alloc ?_ _)))) hG4
          obtain ⟨z0, z1, z2, z3⟩ := four_at rfl hG4
          clear x0 x1 x2 x3
          go_wp2_with (at_builtin; refine wpList_append_own _ rfl _ _ 27 rfl w.heap.size 39 i0 (.agg #[.int .i64 0, .int .i64 0, .int .i64 0, .int .i64 0]) 4 32 Try.underlying27 hi0 hz0 hz1 hz2 rfl (by decide) v ((l.take i).map (insT at_ cnt)).length (((l.take i).map (insT at_ cnt)).flatMap tuE) rfl (hR.out.later (show G wr _ by (repeat' (first | (with_reducible exact G.refl _) | (with_reducible assumption) | (with_reducible refine G.drewN ?_ _) | (with_reducible refine G.drew ?_) | (with_reducible refine G.alloc ?_ _) | (with_reducible refine G.setCell ?_ (by first | (with_reducible exact Nat.le_refl _) | (simp; done) | (simp; omega) | omega) _) | (with_reducible refine G.trans ?_ (by assumption)))))) ⟨w4.heap.size, 0, none⟩ 1 1 [.int .i64 (f), .int .i64 (cc), .int .i64 aa, .int .i64 nn] rfl rfl (new_add _ _ [.int .i64 (f), .int .i64 (cc), .int .i64 aa, .int .i64 nn] _ (by simp [go_sem])) (by simp [Value.oneCell']) (by unfold maxLen; rw [HLT.out]; have := HN.out; omega) (by rw [HLT.out]; have := HN.out; omega) (by have := HSZ.out; have := g4.size; simp [go_sem]; omega) ?_; intro v' w6 hown' hgrow _)
          have RN := Lib.hid (Row.more (enc := tuE) (M := (l.take i).map (insT at_ cnt)) (x := ⟨f, cc, aa, nn⟩) hown')
          have gN : G w w6 := Below.grown (B := w.heap.size) (show G w _ from gr.trans (by (repeat' (first | (with_reducible exact G.refl _) | (with_reducible assumption) | (with_reducible refine G.drewN ?_ _) | (with_reducible refine G.drew ?_) | (with_reducible refine G.alloc ?_ _) | (with_reducible refine G.setCell ?_ (by first | (with_reducible exact Nat.le_refl _) | (simp; done) | (simp; omega) | omega) _) | (with_reducible refine G.trans ?_ (by assumption)))))) hgrow (by have := HSZ.out; have := g4.size; simp [go_sem]; omega) (fun k hk => hR.out.own k hk)
          go_roundg (n - (i + 1))
          case measure => have := HQ.out; omega
          case rel => exact ⟨i + 1, v', rfl, by first | rfl | go_num, rfl, by omega, Lib.hid (by rw [HX.out, HIT.out]; exact RN.out), gN⟩
    · have hii : i = n := by omega
      have hR2 := hR.out
      rw [hii, List.take_of_length_le (by have := HN.out; omega)] at hR2
      have HR2 := Lib.hid hR2
      clear hR2 hR
      go_wp2_with fail
      go_ret
      exact ⟨_, rfl, HR2.out, gr⟩

theorem ne_self (f c a n : Int) (w : World) : Sem.run Try.prog (binOp BinOp.neq 39 (Value.agg #[.int .i64 f, .int .i64 c, .int .i64 a, .int .i64 n]) (Value.agg #[.int .i64 f, .int .i64 c, .int .i64 a, .int .i64 n])) w = .ok (.bool false) w := by simp [go_sem]
set_option maxRecDepth 100000 in
set_option maxHeartbeats 6400000 in
theorem same_same (a b : Option Addr) (L : List Tu) (n c d : Nat) (w : World) (hn : L.length = n) (hn2 : n ≤ 1000) (h1 : TusAt w a L) (h2 : TusAt w b L) :
    Calls Try.prog 18 #[.slice a n c, .slice b n d] w fun e w' => e = .returned (.bool true) ∧ G w w' := by
  have H1 := Lib.hid h1
  have H2 := Lib.hid h2
  have HN := Lib.hid (And.intro hn hn2)
  clear h1 h2 hn hn2
  go_enter Try.func18, Try.ntmps18
  go_wp2_with fail
  go_loopg [5] n (fun q x wr => ∃ i : Nat, x = .int .i64 i ∧ q = n - i ∧ i ≤ n ∧ G w wr)
  case atStart => exact ⟨0, rfl, by omega, by omega, by (repeat' (first | (with_reducible exact G.refl _) | (with_reducible assumption) | (with_reducible refine G.drewN ?_ _) | (with_reducible refine G.drew ?_) | (with_reducible refine G.alloc ?_ _) | (with_reducible refine G.setCell ?_ (by first | (with_reducible exact Nat.le_refl _) | (simp; done) | (simp; omega) | omega) _) | (with_reducible refine G.trans ?_ (by assumption))))⟩
  case round =>
    obtain ⟨i, rfl, hq, hi, gr⟩ := hrel
    have HQ := Lib.hid hq
    clear hq
    by_cases hin : i < n
    · obtain ⟨⟨f, cc, aa, nn⟩, hx⟩ : ∃ z, L[i]? = some z := ⟨L[i]'(by have := HN.out; omega), List.getElem?_eq_getElem (by have := HN.out; omega)⟩
      rcases H1.out with hz | ⟨b0, o0, rfl, f0⟩
      · rw [hz] at hx; simp at hx
      rcases H2.out with hz | ⟨b2, o2, rfl, f2⟩
      · rw [hz] at hx; simp at hx
      obtain ⟨x0, x1, x2, x3⟩ := (f0 i _ hx).later gr
      obtain ⟨y0, y1, y2, y3⟩ := (f2 i _ hx).later gr
      dsimp only at x0 x1 x2 x3 y0 y1 y2 y3
      have b1 : (0 : Int) ≤ (i : Int) := by omega
      have b2 : (i : Int) < (n : Int) := by omega
      have q1 := IntWalk.i64_in ((i : Int) + 1) (by have := HN.out.2; omega)
      clear f0 f2 hx
      go_wp2_with fail
      go_big_region
      all_goals
        go_wp2_with fail
        go_roundg (n - (i + 1))
        case measure => have := HQ.out; omega
        case rel => exact ⟨i + 1, by go_num, rfl, by omega, by (repeat' (first | (with_reducible exact G.refl _) | (with_reducible assumption) | (with_reducible refine G.drewN ?_ _) | (with_reducible refine G.drew ?_) | (with_reducible refine G.alloc ?_ _) | (with_reducible refine G.setCell ?_ (by first | (with_reducible exact Nat.le_refl _) | (simp; done) | (simp; omega) | omega) _) | (with_reducible refine G.trans ?_ (by assumption))))⟩
    · have hii : i = n := by omega
      subst hii
      go_wp2_with fail
      go_ret
      exact ⟨rfl, by (repeat' (first | (with_reducible exact G.refl _) | (with_reducible assumption) | (with_reducible refine G.drewN ?_ _) | (with_reducible refine G.drew ?_) | (with_reducible refine G.alloc ?_ _) | (with_reducible refine G.setCell ?_ (by first | (with_reducible exact Nat.le_refl _) | (simp; done) | (simp; omega) | omega) _) | (with_reducible refine G.trans ?_ (by assumption))))⟩
end Go.Proofs.Ytabaiklagobimaa
