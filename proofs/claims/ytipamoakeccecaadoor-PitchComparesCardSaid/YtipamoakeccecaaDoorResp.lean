import Derived.Test.YtipamoakeccecaaDoorEnh
/-! Respell: the enharmonic pitch some steps away, if there is one. -/
namespace Go.Proofs.YtipamoakeccecaaDoor
open Go.RowKit
attribute [local go_sem] World.cell?_alloc_some

def dia (p : P3) : Int := 7 * p.2.2 + p.1
def OkP (p : P3) : Prop := Ok p.1 p.2.1 p.2.2
/-- the first of a list that is some steps away -/
def rspF (d k : Int) (l : List P3) : Option P3 := l.find? (fun p => dia p - d == k)
def rspP (r : Option P3) : P3 := r.getD (0, 0, 0)
def rspE (r : Option P3) : Int := if r.isSome then 0 else 18
abbrev all5 (n : Int) : List P3 := enh n (alts 5)

theorem enh_ok {n : Int} {l : List Alt} {p : P3} (hp : p ∈ enh n l) : OkP p ∧ ∃ x : Alt, p = (so ((n - x.1) % 12), x.1, (n - x.1 + 12) / 12 - 2) ∧ so ((n - x.1) % 12) ≠ 7 := by
  unfold enh at hp
  obtain ⟨x, _, hx⟩ := List.mem_flatMap.1 hp
  unfold enh1 at hx
  by_cases h : spE n x.1 = 0
  · rw [if_pos h] at hx
    have e : p = sp3 n x := by simpa using hx
    unfold spE at h
    by_cases h7 : so ((n - x.1) % 12) = 7
    · rw [if_pos h7] at h; omega
    · rw [if_neg h7] at h
      have ok : Ok (so ((n - x.1) % 12)) x.1 ((n - x.1 + 12) / 12 - 2) := by
        by_cases c : Ok (so ((n - x.1) % 12)) x.1 ((n - x.1 + 12) / 12 - 2)
        · exact c
        · rw [er_bad c] at h; omega
      have e2 : p = (so ((n - x.1) % 12), x.1, (n - x.1 + 12) / 12 - 2) := by
        rw [e]; unfold sp3 spX; rw [if_neg h7, if_neg h7, if_neg h7, ey_ok ok, ey_ok ok, ey_ok ok]
      exact ⟨by rw [e2]; exact ok, x, e2, h7⟩
  · rw [if_neg h] at hx; simp at hx

theorem flat_get : ∀ (l : List P3) (i : Nat) (p : P3), l[i]? = some p → (flat l)[3 * i]? = some (.int .i64 p.1) ∧ (flat l)[3 * i + 1]? = some (.int .i64 p.2.1) ∧ (flat l)[3 * i + 2]? = some (.int .i64 p.2.2)
  | [], i, p, h => by simp at h
  | q :: l, 0, p, h => by
    simp at h; subst h
    simp [flat, cells3]
  | q :: l, i + 1, p, h => by
    have k := flat_get l i p (by simpa using h)
    have e : flat (q :: l) = cells3 q ++ flat l := by simp [flat]
    have l3 : (cells3 q).length = 3 := rfl
    rw [e]
    refine ⟨?_, ?_, ?_⟩
    · rw [List.getElem?_append_right (by omega), l3, show 3 * (i + 1) - 3 = 3 * i by omega]; exact k.1
    · rw [List.getElem?_append_right (by omega), l3, show 3 * (i + 1) + 1 - 3 = 3 * i + 1 by omega]; exact k.2.1
    · rw [List.getElem?_append_right (by omega), l3, show 3 * (i + 1) + 2 - 3 = 3 * i + 2 by omega]; exact k.2.2

/-- a slice of pitches: where it lies, and its cells -/
theorem own_cells {W : World} {base : Nat} {e : TypeId} {v : Value} {l : List P3} (h : W.ownsRow base e 3 v l.length (flat l)) :
    (v = .slice none 0 0 ∧ l = []) ∨ ∃ g cap, v = .slice (some ⟨g, 0, none⟩) l.length cap ∧ base ≤ g ∧ l.length ≤ cap ∧ cap ≤ maxLen ∧ ∀ (i : Nat) (p : P3), l[i]? = some p →
      W.cell? ⟨g, 3 * i, none⟩ = some (.int .i64 p.1) ∧ W.cell? ⟨g, 3 * i + 1, none⟩ = some (.int .i64 p.2.1) ∧ W.cell? ⟨g, 3 * i + 2, none⟩ = some (.int .i64 p.2.2) := by
  rcases h.2 with ⟨h1, h2⟩ | ⟨g, cap, cur, h1, h2, h3, h4, h5, h6, h7⟩
  · exact .inl ⟨h1, List.length_eq_zero_iff.1 h2⟩
  · refine .inr ⟨g, cap, h1, h2, h4, h5, fun i p hp => ?_⟩
    obtain ⟨x0, x1, x2⟩ := flat_get l i p hp
    have get : ∀ (j : Nat) (u : Value), (flat l)[j]? = some u → W.cell? ⟨g, j, none⟩ = some u := by
      intro j u hj
      rw [← h7] at hj
      have hj2 : cur.toList[j]? = some u := by
        rw [List.getElem?_take] at hj
        split at hj
        · exact hj
        · simp at hj
      simp only [World.cell?, h3]
      simpa using hj2
    exact ⟨get _ _ x0, get _ _ x1, get _ _ x2⟩

theorem okp_bd {p : P3} (h : OkP p) : (0 ≤ p.1 ∧ p.1 ≤ 6) ∧ (-2 ≤ p.2.1 ∧ p.2.1 ≤ 2) ∧ -1 ≤ p.2.2 ∧ p.2.2 ≤ 9 := h.1

set_option maxHeartbeats 800000 in
theorem Respell_bad (s a o k : Int) (w : World) (hT : Hts w) (h : ¬ Ok s a o) :
    Calls Tryd.prog 13 #[.agg #[.int .i64 s, .int .i64 a, .int .i64 o], .int .i64 k] w fun e w' => e = .returned (.tuple #[.agg #[.int .i64 0, .int .i64 0, .int .i64 0], .int .i64 18]) ∧ G w w' := by
  have HT := Lib.hid hT
  have HO := Lib.hid h
  clear hT h
  go_enter Tryd.func13, Tryd.ntmps13
  go_wp2_with fail
  refine (Diatonic_any s a o _ (HT.out.later (by (repeat' (first | (with_reducible exact G.refl _) | (with_reducible assumption) | (with_reducible refine G.drewN ?_ _) | (with_reducible refine G.drew ?_) | (with_reducible refine G.alloc ?_ _) | (with_reducible refine G.setCell ?_ (by first | (with_reducible exact Nat.le_refl _) | (simp; done) | (simp; omega) | omega) _) | (with_reducible refine G.trans ?_ (by assumption))))))).mono ?_
  rintro e w1 ⟨rfl, hG⟩
  rw [er_bad HO.out, if_neg HO.out]
  obtain ⟨⟨y0, y1, y2⟩, ⟨z0, z1, z2⟩, f0, f1, f2⟩ := tri2_later hG
  go_wp2_with fail
  refine bodyPost_ret (v := .tuple #[.agg #[.int .i64 0, .int .i64 0, .int .i64 0], .int .i64 18]) (by simp [results, Tryd.results13, go_sem, z0, z1, z2]) rfl ⟨rfl, ?_⟩
  (repeat' (first | (with_reducible exact G.refl _) | (with_reducible assumption) | (with_reducible refine G.drewN ?_ _) | (with_reducible refine G.drew ?_) | (with_reducible refine G.alloc ?_ _) | (with_reducible refine G.setCell ?_ (by first | (with_reducible exact Nat.le_refl _) | (simp; done) | (simp; omega) | omega) _) | (with_reducible refine G.trans ?_ (by assumption))))

set_option maxRecDepth 20000 in
set_option maxHeartbeats 3200000 in
theorem Respell_ok (s a o k : Int) (w : World) (hT : Hts w) (h : Ok s a o) :
    Calls Tryd.prog 13 #[.agg #[.int .i64 s, .int .i64 a, .int .i64 o], .int .i64 k] w fun e w' =>
      e = .returned (.tuple #[.agg #[.int .i64 (rspP (rspF (7 * o + s) k (all5 (ht s a o)))).1, .int .i64 (rspP (rspF (7 * o + s) k (all5 (ht s a o)))).2.1, .int .i64 (rspP (rspF (7 * o + s) k (all5 (ht s a o)))).2.2], .int .i64 (rspE (rspF (7 * o + s) k (all5 (ht s a o))))]) ∧ G w w' := by
  have HT := Lib.hid hT
  have HO := Lib.hid h
  have hb := h
  obtain ⟨⟨⟨s0, s1⟩, ⟨a0, a1⟩, o0, o1⟩, h0, h1⟩ := hb
  clear hT h
  generalize hl : all5 (ht s a o) = l
  have hlen : l.length ≤ 5 := by rw [← hl]; exact enh_length _ _
  have hok : ∀ p ∈ l, OkP p := fun p hp => (enh_ok (n := ht s a o) (l := alts 5) (by rw [show enh (ht s a o) (alts 5) = l from hl]; exact hp)).1
  have HL := Lib.hid hl
  have HK := Lib.hid hok
  clear hl hok
  obtain ⟨d, hd⟩ : ∃ d : Int, d = 7 * o + s := ⟨_, rfl⟩
  have dl : -7 ≤ d := by omega
  have du : d ≤ 69 := by omega
  rw [← hd]
  have HD := Lib.hid hd
  clear hd
  go_enter Tryd.func13, Tryd.ntmps13
  go_wp2_with fail
  refine (Diatonic_any s a o _ (HT.out.later (by (repeat' (first | (with_reducible exact G.refl _) | (with_reducible assumption) | (with_reducible refine G.drewN ?_ _) | (with_reducible refine G.drew ?_) | (with_reducible refine G.alloc ?_ _) | (with_reducible refine G.setCell ?_ (by first | (with_reducible exact Nat.le_refl _) | (simp; done) | (simp; omega) | omega) _) | (with_reducible refine G.trans ?_ (by assumption))))))).mono ?_
  rintro e w1 ⟨rfl, hG1⟩
  rw [er_ok HO.out, if_pos HO.out, ← HD.out]
  obtain ⟨⟨y0, y1, y2⟩, ⟨z0, z1, z2⟩, f0, f1, f2⟩ := tri2_later hG1
  go_wp2_with fail
  refine (height_any s a o _ HO.out.1 (HT.out.later (by (repeat' (first | (with_reducible exact G.refl _) | (with_reducible assumption) | (with_reducible refine G.drewN ?_ _) | (with_reducible refine G.drew ?_) | (with_reducible refine G.alloc ?_ _) | (with_reducible refine G.setCell ?_ (by first | (with_reducible exact Nat.le_refl _) | (simp; done) | (simp; omega) | omega) _) | (with_reducible refine G.trans ?_ (by assumption))))))).mono ?_
  rintro e w2 ⟨rfl, hG2⟩
  clear z0 z1 z2 f0 f1 f2 y0 y1 y2
  go_wp2_with fail
  refine (Enharmonics_any (ht s a o) _ h0 h1 (HT.out.later (by (repeat' (first | (with_reducible exact G.refl _) | (with_reducible assumption) | (with_reducible refine G.drewN ?_ _) | (with_reducible refine G.drew ?_) | (with_reducible refine G.alloc ?_ _) | (with_reducible refine G.setCell ?_ (by first | (with_reducible exact Nat.le_refl _) | (simp; done) | (simp; omega) | omega) _) | (with_reducible refine G.trans ?_ (by assumption))))))).mono ?_
  rintro e w3 ⟨v, rfl, hown, hG3⟩
  rw [show enh (ht s a o) (alts 5) = l from HL.out] at hown
  have hB3 : G ((w.alloc (.cells #[.int .i64 s, .int .i64 a, .int .i64 o] 23)).alloc (.cells #[.int .i64 0, .int .i64 0, .int .i64 0] 23)) w3 := by (repeat' (first | (with_reducible exact G.refl _) | (with_reducible assumption) | (with_reducible refine G.drewN ?_ _) | (with_reducible refine G.drew ?_) | (with_reducible refine G.alloc ?_ _) | (with_reducible refine G.setCell ?_ (by first | (with_reducible exact Nat.le_refl _) | (simp; done) | (simp; omega) | omega) _) | (with_reducible refine G.trans ?_ (by assumption))))
  rcases own_cells hown with ⟨rfl, rfl⟩ | ⟨g, cap, rfl, hg, _, hcap, hcells⟩
  · obtain ⟨_, ⟨z0, z1, z2⟩, f0, f1, f2⟩ := tri2_later hB3
    go_wp2_with fail
    go_loopw [31] (fun x wr => x = .int .i64 0 ∧ wr = w3) (fun _ _ => 0)
    case atStart => exact ⟨rfl, rfl⟩
    case round =>
      obtain ⟨rfl, rfl⟩ := hrel
      go_wp2_with fail
      refine bodyPost_ret (v := .tuple #[.agg #[.int .i64 0, .int .i64 0, .int .i64 0], .int .i64 18]) (by simp [results, Tryd.results13, go_sem, z0, z1, z2]) rfl ⟨rfl, ?_⟩
      (repeat' (first | (with_reducible exact G.refl _) | (with_reducible assumption) | (with_reducible refine G.drewN ?_ _) | (with_reducible refine G.drew ?_) | (with_reducible refine G.alloc ?_ _) | (with_reducible refine G.setCell ?_ (by first | (with_reducible exact Nat.le_refl _) | (simp; done) | (simp; omega) | omega) _) | (with_reducible refine G.trans ?_ (by assumption))))
  · have glt : ∀ p ∈ l, g < w3.heap.size := fun p hp => by
      obtain ⟨i, hi⟩ := List.getElem?_of_mem hp
      exact cell_lt (hcells i p hi).1
    have HC := Lib.hid hcells
    have HGL := Lib.hid glt
    clear hcells hown glt
    go_wp2_with fail
    obtain ⟨ln, hln⟩ : ∃ z : Int, (l.length : Int) = z := ⟨_, rfl⟩
    rw [hln]
    have ln0 : 0 ≤ ln := by omega
    have ln5 : ln ≤ 5 := by omega
    go_loopg [31] 5 (fun g x wr => ∃ i : Int, x = .int .i64 i ∧ g = (5 - i).toNat ∧ 0 ≤ i ∧ i ≤ ln ∧ Hid (∀ (j : Nat) (p : P3), (j : Int) < i → l[j]? = some p → (dia p - d == k) = false) ∧ G w3 wr)
    case atStart => exact ⟨0, rfl, by simp, by omega, ln0, fun j p hj _ => by omega, G.refl _⟩
    case round =>
      obtain ⟨i, rfl, hgk, i0, i1, hne, hW⟩ := hrel
      have HGK := Lib.hid hgk
      clear hgk
      have hBW := hB3.trans hW
      obtain ⟨_, ⟨z0, z1, z2⟩, f0, f1, f2⟩ := tri2_later hBW
      by_cases hi : i = ln
      · subst hi
        have hnone : rspF d k l = none := by
          unfold rspF
          rw [List.find?_eq_none]
          intro p hp
          obtain ⟨j, hj⟩ := List.getElem?_of_mem hp
          have hj2 : j < l.length := (List.getElem?_eq_some_iff.1 hj).1
          rw [hne.out j p (by omega) hj]; simp
        have HN := Lib.hid hnone
        clear hnone hne
        go_wp2_with fail
        refine bodyPost_ret (v := .tuple #[.agg #[.int .i64 0, .int .i64 0, .int .i64 0], .int .i64 18]) (by simp [results, Tryd.results13, go_sem, z0, z1, z2]) rfl ⟨by rw [HN.out]; rfl, ?_⟩
        (repeat' (first | (with_reducible exact G.refl _) | (with_reducible assumption) | (with_reducible refine G.drewN ?_ _) | (with_reducible refine G.drew ?_) | (with_reducible refine G.alloc ?_ _) | (with_reducible refine G.setCell ?_ (by first | (with_reducible exact Nat.le_refl _) | (simp; done) | (simp; omega) | omega) _) | (with_reducible refine G.trans ?_ (by assumption))))
      · have hlt : i < ln := by omega
        obtain ⟨n, rfl⟩ : ∃ n : Nat, i = n := ⟨i.toNat, by omega⟩
        have hn : n < l.length := by omega
        obtain ⟨p, hp⟩ : ∃ p, l[n]? = some p := ⟨l[n], List.getElem?_eq_getElem hn⟩
        have pl : p ∈ l := List.mem_of_getElem? hp
        have okp := HK.out p pl
        have pb := okp_bd okp
        obtain ⟨c0, c1, c2⟩ := HC.out n p hp
        have gw := HGL.out p pl
        replace c0 := hW.at c0
        replace c1 := hW.at c1
        replace c2 := hW.at c2
        have n5 : n = 0 ∨ n = 1 ∨ n = 2 ∨ n = 3 ∨ n = 4 := by omega
        obtain ⟨p1, p2, p3⟩ := p
        dsimp only at c0 c1 c2 pb
        have OKP := Lib.hid (show Ok p1 p2 p3 from okp)
        clear okp z0 z1 z2 f0 f1 f2 pl gw
        by_cases hh : (dia (p1, p2, p3) - d == k) = true
        · have hfind : rspF d k l = some (p1, p2, p3) := by
            unfold rspF
            rw [List.find?_eq_some_iff_getElem]
            refine ⟨hh, n, hn, by rw [List.getElem?_eq_getElem hn] at hp; exact Option.some.inj hp, fun j hj => ?_⟩
            rw [hne.out j l[j] (by omega) (List.getElem?_eq_getElem (by omega))]; rfl
          have HF := Lib.hid hfind
          clear hfind hne hp
          replace hh : (7 * p3 + p1 - d == k) = true := hh
          rcases n5 with rfl | rfl | rfl | rfl | rfl
          all_goals
            dsimp only [Nat.reduceMul, Nat.reduceAdd] at c0 c1 c2
            go_wp2_with fail
            refine (Diatonic_any p1 p2 p3 _ (HT.out.later (by (repeat' (first | (with_reducible exact G.refl _) | (with_reducible assumption) | (with_reducible refine G.drewN ?_ _) | (with_reducible refine G.drew ?_) | (with_reducible refine G.alloc ?_ _) | (with_reducible refine G.setCell ?_ (by first | (with_reducible exact Nat.le_refl _) | (simp; done) | (simp; omega) | omega) _) | (with_reducible refine G.trans ?_ (by assumption))))))).mono ?_
            rintro e w5 ⟨rfl, hG5⟩
            rw [er_ok OKP.out, if_pos OKP.out]
            obtain ⟨b0, b1, b2⟩ := tri_later hG5
            obtain ⟨_, ⟨z0, z1, z2⟩, f0, f1, f2⟩ := tri2_later (hBW.trans (show G wr w5 by (repeat' (first | (with_reducible exact G.refl _) | (with_reducible assumption) | (with_reducible refine G.drewN ?_ _) | (with_reducible refine G.drew ?_) | (with_reducible refine G.alloc ?_ _) | (with_reducible refine G.setCell ?_ (by first | (with_reducible exact Nat.le_refl _) | (simp; done) | (simp; omega) | omega) _) | (with_reducible refine G.trans ?_ (by assumption))))))
            clear c0 c1 c2
            go_wp2_with fail
            refine bodyPost_ret (v := .tuple #[.agg #[.int .i64 p1, .int .i64 p2, .int .i64 p3], .int .i64 0]) (by simp [results, Tryd.results13, go_sem, z0, z1, z2]) rfl ⟨by rw [HF.out]; rfl, ?_⟩
            (repeat' (first | (with_reducible exact G.refl _) | (with_reducible assumption) | (with_reducible refine G.drewN ?_ _) | (with_reducible refine G.drew ?_) | (with_reducible refine G.alloc ?_ _) | (with_reducible refine G.setCell ?_ (by first | (with_reducible exact Nat.le_refl _) | (simp; done) | (simp; omega) | omega) _) | (with_reducible refine G.trans ?_ (by assumption))))
        · have hf : (dia (p1, p2, p3) - d == k) = false := by simpa using hh
          have hne2 : ∀ (j : Nat) (p : P3), (j : Int) < (n : Int) + 1 → l[j]? = some p → (dia p - d == k) = false := by
            intro j p hj hjp
            by_cases c : j = n
            · subst c; rw [hp] at hjp; cases hjp; exact hf
            · exact hne.out j p (by omega) hjp
          have HNE := Lib.hid hne2
          clear hne2 hne hp hh
          replace hf : (7 * p3 + p1 - d == k) = false := hf
          obtain ⟨GG, hGG⟩ : ∃ z : Nat, Hid (z = (5 - ((n : Int) + 1)).toNat) := ⟨_, rfl⟩
          rcases n5 with rfl | rfl | rfl | rfl | rfl
          all_goals
            dsimp only [Nat.reduceMul, Nat.reduceAdd] at c0 c1 c2
            go_wp2_with fail
            refine (Diatonic_any p1 p2 p3 _ (HT.out.later (by (repeat' (first | (with_reducible exact G.refl _) | (with_reducible assumption) | (with_reducible refine G.drewN ?_ _) | (with_reducible refine G.drew ?_) | (with_reducible refine G.alloc ?_ _) | (with_reducible refine G.setCell ?_ (by first | (with_reducible exact Nat.le_refl _) | (simp; done) | (simp; omega) | omega) _) | (with_reducible refine G.trans ?_ (by assumption))))))).mono ?_
            rintro e w5 ⟨rfl, hG5⟩
            rw [er_ok OKP.out, if_pos OKP.out]
            clear c0 c1 c2
            go_wp2_with fail
            go_roundg GG
            case measure => have := HGK.out; have := hGG.out; omega
            case rel => exact ⟨_, rfl, by rw [hGG.out]; rfl, by omega, by omega, HNE, by (repeat' (first | (with_reducible exact G.refl _) | (with_reducible assumption) | (with_reducible refine G.drewN ?_ _) | (with_reducible refine G.drew ?_) | (with_reducible refine G.alloc ?_ _) | (with_reducible refine G.setCell ?_ (by first | (with_reducible exact Nat.le_refl _) | (simp; done) | (simp; omega) | omega) _) | (with_reducible refine G.trans ?_ (by assumption))))⟩

/-- what Respell hands back -/
def rsp (s a o k : Int) : Option P3 := if Ok s a o then rspF (7 * o + s) k (all5 (ht s a o)) else none
theorem Respell_any (s a o k : Int) (w : World) (hT : Hts w) :
    Calls Tryd.prog 13 #[.agg #[.int .i64 s, .int .i64 a, .int .i64 o], .int .i64 k] w fun e w' =>
      e = .returned (.tuple #[.agg #[.int .i64 (rspP (rsp s a o k)).1, .int .i64 (rspP (rsp s a o k)).2.1, .int .i64 (rspP (rsp s a o k)).2.2], .int .i64 (rspE (rsp s a o k))]) ∧ G w w' := by
  unfold rsp
  by_cases h : Ok s a o
  · rw [if_pos h]; exact Respell_ok s a o k w hT h
  · rw [if_neg h]; exact Respell_bad s a o k w hT h
end Go.Proofs.YtipamoakeccecaaDoor
