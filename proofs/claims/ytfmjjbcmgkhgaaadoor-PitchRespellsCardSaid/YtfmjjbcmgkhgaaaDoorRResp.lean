import Derived.Test.YtfmjjbcmgkhgaaaDoorEnhEq
import Derived.Test.YtfmjjbcmgkhgaaaDoorEnhNe
import Derived.Test.YtfmjjbcmgkhgaaaDoorTri
/-! The reference's Respell; respelling back. -/
namespace Go.Proofs.YtfmjjbcmgkhgaaaDoor
open Go.RowKit
attribute [local go_sem] World.cell?_alloc_some

theorem mem_allO {s a o : Int} (h : Ok s a o) : (s, a, o) ∈ allO 11 := by
  have hb := h
  obtain ⟨⟨⟨s0, s1⟩, ⟨a0, a1⟩, o0, o1⟩, _⟩ := hb
  unfold allO
  refine List.mem_flatMap.2 ⟨(o + 1).toNat, List.mem_range.2 (by omega), ?_⟩
  rw [show (((o + 1).toNat : Nat) : Int) - 1 = o by omega]
  unfold allS
  refine List.mem_flatMap.2 ⟨s.toNat, List.mem_range.2 (by omega), ?_⟩
  rw [show ((s.toNat : Nat) : Int) = s by omega]
  unfold allA
  refine List.mem_filter.2 ⟨List.mem_map.2 ⟨(a + 2).toNat, List.mem_range.2 (by omega), ?_⟩, decide_eq_true h⟩
  rw [show (((a + 2).toNat : Nat) : Int) - 2 = a by omega]
theorem mem_all5 {n s a o : Int} (h0 : 0 ≤ n) (h1 : n ≤ 127) : (s, a, o) ∈ all5 n ↔ Ok s a o ∧ ht s a o = n := by
  show (s, a, o) ∈ enh n (alts 5) ↔ _
  rw [← enh_eq h0 h1]
  unfold rE
  rw [List.mem_filter]
  exact ⟨fun ⟨x, y⟩ => ⟨mem_all x, beq_iff_eq.1 y⟩, fun ⟨x, y⟩ => ⟨mem_allO x, beq_iff_eq.2 y⟩⟩
theorem same_dia {s a o x b c : Int} (h : Ok s a o) (k : Ok x b c) (e1 : 7 * o + s = 7 * c + x) (e2 : ht s a o = ht x b c) : s = x ∧ a = b ∧ o = c := by
  obtain ⟨⟨⟨_, _⟩, ⟨_, _⟩, _, _⟩, _, _⟩ := h
  obtain ⟨⟨⟨_, _⟩, ⟨_, _⟩, _, _⟩, _, _⟩ := k
  obtain ⟨rfl, rfl⟩ : s = x ∧ o = c := by omega
  unfold ht at e2
  exact ⟨rfl, by omega, rfl⟩
/-- what is respelled is respelled back -/
theorem rsp_back {s a o k x b c : Int} (h : Ok s a o) (hr : rspF (7 * o + s) k (all5 (ht s a o)) = some (x, b, c)) : Ok x b c ∧ k = 7 * c + x - (7 * o + s) ∧ rsp x b c (-k) = some (s, a, o) := by
  obtain ⟨h0, h1⟩ := h.2
  have hm := List.mem_of_find?_eq_some hr
  have hk := List.find?_some hr
  obtain ⟨ok, ht'⟩ := (mem_all5 h0 h1).1 hm
  have hk2 : 7 * c + x - (7 * o + s) = k := by have := beq_iff_eq.1 hk; unfold dia at this; simpa using this
  refine ⟨ok, hk2.symm, ?_⟩
  unfold rsp
  rw [if_pos ok, ht']
  have hex : ∃ p, rspF (7 * c + x) (-k) (all5 (ht s a o)) = some p := by
    cases hf : rspF (7 * c + x) (-k) (all5 (ht s a o)) with
    | some p => exact ⟨p, rfl⟩
    | none =>
      exfalso
      unfold rspF at hf
      rw [List.find?_eq_none] at hf
      have := hf (s, a, o) ((mem_all5 h0 h1).2 ⟨h, rfl⟩)
      simp [dia] at this
      omega
  obtain ⟨⟨y, d, f⟩, hf⟩ := hex
  rw [hf]
  have hm2 := List.mem_of_find?_eq_some hf
  have hk3 := List.find?_some hf
  obtain ⟨ok2, ht2⟩ := (mem_all5 h0 h1).1 hm2
  have hk4 : 7 * f + y - (7 * c + x) = -k := by have := beq_iff_eq.1 hk3; unfold dia at this; simpa using this
  obtain ⟨rfl, rfl, rfl⟩ := same_dia ok2 h (by omega) ht2
  rfl

set_option maxRecDepth 20000 in
set_option maxHeartbeats 3200000 in
theorem rRespell_any (s a o k : Int) (w : World) (h : Ok s a o) :
    Calls Tryd.prog 25 #[.agg #[.int .i64 s, .int .i64 a, .int .i64 o], .int .i64 k] w fun e w' =>
      e = .returned (.tuple #[.agg #[.int .i64 (rspP (rspF (7 * o + s) k (all5 (ht s a o)))).1, .int .i64 (rspP (rspF (7 * o + s) k (all5 (ht s a o)))).2.1, .int .i64 (rspP (rspF (7 * o + s) k (all5 (ht s a o)))).2.2], .bool (rspF (7 * o + s) k (all5 (ht s a o))).isSome]) ∧ G w w' := by
  have HO := Lib.hid h
  have hb := h
  obtain ⟨⟨⟨s0, s1⟩, ⟨a0, a1⟩, o0, o1⟩, h0, h1⟩ := hb
  have hlen : (all5 (ht s a o)).length ≤ 5 := enh_length _ _
  have hok : ∀ p ∈ all5 (ht s a o), OkP p := fun p hp => (enh_ok (n := ht s a o) (l := alts 5) hp).1
  have hne : all5 (ht s a o) ≠ [] := enh_ne h0 h1
  have HE := Lib.hid (show rE (ht s a o) (allO 11) = all5 (ht s a o) from enh_eq h0 h1)
  generalize hl : all5 (ht s a o) = l at *
  have HK := Lib.hid hok
  clear hl hok h
  obtain ⟨d, hd⟩ : ∃ d : Int, d = 7 * o + s := ⟨_, rfl⟩
  have dl : -7 ≤ d := by omega
  have du : d ≤ 69 := by omega
  rw [← hd]
  have HD := Lib.hid hd
  clear hd
  obtain ⟨n, HN⟩ : ∃ n : Int, Hid (n = ht s a o) := ⟨_, rfl⟩
  obtain ⟨R, HR⟩ : ∃ R, Hid (rspF d k l = R) := ⟨_, rfl⟩
  rw [HR.out]
  go_enter Tryd.func25, Tryd.ntmps25
  go_wp2_with fail
  refine (rNumber_any s a o _ HO.out.1).mono ?_
  rintro e w1 ⟨rfl, hG1⟩
  rw [← HN.out]
  go_wp2_with fail
  refine (rEnharmonics_any n _).mono ?_
  rintro e w2 ⟨v, rfl, hown, hG2⟩
  rw [HN.out, HE.out] at hown
  have hB2 : G ((w.alloc (.cells #[.int .i64 s, .int .i64 a, .int .i64 o] 23)).alloc (.cells #[.int .i64 0, .int .i64 0, .int .i64 0] 23)) w2 := by (repeat' (first | (with_reducible exact G.refl _) | (with_reducible assumption) | (with_reducible refine G.drewN ?_ _) | (with_reducible refine G.drew ?_) | (with_reducible refine G.alloc ?_ _) | (with_reducible refine G.setCell ?_ (by first | (with_reducible exact Nat.le_refl _) | (simp; done) | (simp; omega) | omega) _) | (with_reducible refine G.trans ?_ (by assumption))))
  rcases own_cells hown with ⟨_, q⟩ | ⟨g, cap, rfl, hg, _, hcap, hcells⟩
  · exact absurd q hne
  have HC := Lib.hid hcells
  clear hcells hown
  go_wp2_with fail
  go_loopg [7] l.length (fun kk x wr => ∃ i : Nat, x = .int .i64 i ∧ kk = l.length - i ∧ i ≤ l.length ∧ Hid (∀ (j : Nat) (p : P3), j < i → l[j]? = some p → (dia p - d == k) = false) ∧ G w2 wr)
  case atStart => exact ⟨0, rfl, by simp, by omega, fun j p hj _ => by omega, G.refl _⟩
  case round =>
    obtain ⟨i, rfl, hgk, i1, hno, hW⟩ := hrel
    have HGK := Lib.hid hgk
    clear hgk
    have hBW := hB2.trans hW
    obtain ⟨⟨q0, q1, q2⟩, ⟨z0, z1, z2⟩, f0, f1, f2⟩ := tri2_later hBW
    by_cases hin : i < l.length
    · obtain ⟨p, hp⟩ : ∃ p, l[i]? = some p := ⟨l[i], List.getElem?_eq_getElem hin⟩
      have okp := HK.out p (List.mem_of_getElem? hp)
      obtain ⟨c0, c1, c2⟩ := HC.out i p hp
      have gl := cell_lt c0
      replace c0 := hW.at c0
      replace c1 := hW.at c1
      replace c2 := hW.at c2
      rw [Nat.mul_comm] at c0 c1 c2
      obtain ⟨p1, p2, p3⟩ := p
      dsimp only at c0 c1 c2
      have OKP := Lib.hid (show Ok p1 p2 p3 from okp)
      have pb := okp_bd okp
      dsimp only at pb
      clear okp
      obtain ⟨t, HT⟩ : ∃ t : Int, Hid (t = 7 * p3 + p1) := ⟨_, rfl⟩
      have tb : -7 ≤ t ∧ t ≤ 69 := by rw [HT.out]; omega
      have q := IntWalk.i64_in (t - d) (by omega)
      by_cases hh : (t - d == k) = true
      · have hfind : rspF d k l = some (p1, p2, p3) := by
          unfold rspF
          rw [List.find?_eq_some_iff_getElem]
          refine ⟨by unfold dia; rw [← HT.out]; exact hh, i, hin, by rw [List.getElem?_eq_getElem hin] at hp; exact Option.some.inj hp, fun j hj => ?_⟩
          rw [hno.out j l[j] hj (List.getElem?_eq_getElem (by omega))]; rfl
        have HF := Lib.hid (show R = some (p1, p2, p3) by rw [← HR.out]; exact hfind)
        clear hfind hp hno
        go_wp2_with fail
        go_region_held3 (fun w' => (w'.cell? ⟨w.heap.size, 0, none⟩ = some (.int .i64 s) ∧ w'.cell? ⟨w.heap.size, 1, none⟩ = some (.int .i64 a) ∧ w'.cell? ⟨w.heap.size, 2, none⟩ = some (.int .i64 o)) ∧ w'.cell? ⟨g, i * 3, none⟩ = some (.int .i64 p1) ∧ w'.cell? ⟨g, i * 3 + 1, none⟩ = some (.int .i64 p2) ∧ w'.cell? ⟨g, i * 3 + 2, none⟩ = some (.int .i64 p3))
          (first | (with_reducible assumption) | ((try dsimp only); (repeat' (with_reducible apply And.intro)) <;> go_simp))
          (first | (go_at_call 19; refine (rDiatonic_any p1 p2 p3 _ OKP.out.1).mono ?_; rintro e w5 ⟨rfl, hG5⟩; rw [← HT.out]; have g5 := G.trans (a := wr) (by (repeat' (first | (with_reducible exact G.refl _) | (with_reducible refine G.drewN ?_ _) | (with_reducible refine G.drew ?_) | (with_reducible refine G.alloc ?_ _)))) hG5; have j0 := g5.at q0; have j1 := g5.at q1; have j2 := g5.at q2; have j3 := g5.at c0; have j4 := g5.at c1; have j5 := g5.at c2)
                 | (go_at_call 19; refine (rDiatonic_any s a o _ HO.out.1).mono ?_; rintro e w6 ⟨rfl, hG6⟩; rw [← HD.out]; have g6 := g5.trans (G.trans (by (repeat' (first | (with_reducible exact G.refl _) | (with_reducible refine G.drewN ?_ _) | (with_reducible refine G.drew ?_) | (with_reducible refine G.alloc ?_ _)))) hG6); have m0 := g6.at q0; have m1 := g6.at q1; have m2 := g6.at q2; have m3 := g6.at c0; have m4 := g6.at c1; have m5 := g6.at c2; obtain ⟨_, ⟨x0, x1, x2⟩, y0, y1, y2⟩ := tri2_later (hBW.trans g6)))
        go_wp2_with fail
        refine bodyPost_ret (v := .tuple #[.agg #[.int .i64 p1, .int .i64 p2, .int .i64 p3], .bool true]) (by simp [results, Tryd.results25, go_sem, x0, x1, x2]) rfl ⟨by rw [HF.out]; rfl, ?_⟩
        (repeat' (first | (with_reducible exact G.refl _) | (with_reducible assumption) | (with_reducible refine G.drewN ?_ _) | (with_reducible refine G.drew ?_) | (with_reducible refine G.alloc ?_ _) | (with_reducible refine G.setCell ?_ (by first | (with_reducible exact Nat.le_refl _) | (simp; done) | (simp; omega) | omega) _) | (with_reducible refine G.trans ?_ (by assumption))))
      · have hf : (t - d == k) = false := by simpa using hh
        have hno2 : ∀ (j : Nat) (p : P3), j < i + 1 → l[j]? = some p → (dia p - d == k) = false := by
          intro j p hj hjp
          by_cases c : j = i
          · subst c; rw [hp] at hjp; cases hjp; unfold dia; rw [← HT.out]; exact hf
          · exact hno.out j p (by omega) hjp
        have HNO := Lib.hid hno2
        clear hno2 hno hp hh
        go_wp2_with fail
        go_region_held3 (fun w' => (w'.cell? ⟨w.heap.size, 0, none⟩ = some (.int .i64 s) ∧ w'.cell? ⟨w.heap.size, 1, none⟩ = some (.int .i64 a) ∧ w'.cell? ⟨w.heap.size, 2, none⟩ = some (.int .i64 o)) ∧ w'.cell? ⟨g, i * 3, none⟩ = some (.int .i64 p1) ∧ w'.cell? ⟨g, i * 3 + 1, none⟩ = some (.int .i64 p2) ∧ w'.cell? ⟨g, i * 3 + 2, none⟩ = some (.int .i64 p3))
          (first | (with_reducible assumption) | ((try dsimp only); (repeat' (with_reducible apply And.intro)) <;> go_simp))
          (first | (go_at_call 19; refine (rDiatonic_any p1 p2 p3 _ OKP.out.1).mono ?_; rintro e w5 ⟨rfl, hG5⟩; rw [← HT.out]; have g5 := G.trans (a := wr) (by (repeat' (first | (with_reducible exact G.refl _) | (with_reducible refine G.drewN ?_ _) | (with_reducible refine G.drew ?_) | (with_reducible refine G.alloc ?_ _)))) hG5; have j0 := g5.at q0; have j1 := g5.at q1; have j2 := g5.at q2; have j3 := g5.at c0; have j4 := g5.at c1; have j5 := g5.at c2)
                 | (go_at_call 19; refine (rDiatonic_any s a o _ HO.out.1).mono ?_; rintro e w6 ⟨rfl, hG6⟩; rw [← HD.out]; have g6 := g5.trans (G.trans (by (repeat' (first | (with_reducible exact G.refl _) | (with_reducible refine G.drewN ?_ _) | (with_reducible refine G.drew ?_) | (with_reducible refine G.alloc ?_ _)))) hG6); have m0 := g6.at q0; have m1 := g6.at q1; have m2 := g6.at q2; have m3 := g6.at c0; have m4 := g6.at c1; have m5 := g6.at c2))
        go_wp2_with fail
        go_roundg (l.length - (i + 1))
        case measure => have := HGK.out; omega
        case rel => exact ⟨i + 1, by go_num, rfl, by omega, HNO, by (repeat' (first | (with_reducible exact G.refl _) | (with_reducible assumption) | (with_reducible refine G.drewN ?_ _) | (with_reducible refine G.drew ?_) | (with_reducible refine G.alloc ?_ _) | (with_reducible refine G.setCell ?_ (by first | (with_reducible exact Nat.le_refl _) | (simp; done) | (simp; omega) | omega) _) | (with_reducible refine G.trans ?_ (by assumption))))⟩
    · obtain rfl : i = l.length := by omega
      have HF := Lib.hid (show R = none by
        rw [← HR.out]
        unfold rspF
        rw [List.find?_eq_none]
        intro p hp
        obtain ⟨j, hj⟩ := List.getElem?_of_mem hp
        have hj2 : j < l.length := (List.getElem?_eq_some_iff.1 hj).1
        rw [hno.out j p hj2 hj]; simp)
      clear hno
      go_wp2_with fail
      refine bodyPost_ret (v := .tuple #[.agg #[.int .i64 0, .int .i64 0, .int .i64 0], .bool false]) (by simp [results, Tryd.results25, go_sem, z0, z1, z2]) rfl ⟨by rw [HF.out]; rfl, ?_⟩
      (repeat' (first | (with_reducible exact G.refl _) | (with_reducible assumption) | (with_reducible refine G.drewN ?_ _) | (with_reducible refine G.drew ?_) | (with_reducible refine G.alloc ?_ _) | (with_reducible refine G.setCell ?_ (by first | (with_reducible exact Nat.le_refl _) | (simp; done) | (simp; omega) | omega) _) | (with_reducible refine G.trans ?_ (by assumption))))
end Go.Proofs.YtfmjjbcmgkhgaaaDoor
