import Derived.Test.YtghlecocnflbnaaDoorA7
import Derived.Test.YtghlecocnflbnaaDoorR5
/-! Accidentals: places, their errors, what is read. -/
namespace Go.Proofs.YtghlecocnflbnaaDoor
open Go.RowKit
attribute [local go_sem] World.cell?_alloc_some

def Pl7 (w : World) (b o : Nat) (n : Pl) : Prop :=
  w.cell? ⟨b, o, none⟩ = some (.int .i64 n.t) ∧ w.cell? ⟨b, o + 1, none⟩ = some (.int .i64 n.st) ∧ w.cell? ⟨b, o + 2, none⟩ = some (.int .i64 n.oc) ∧
  w.cell? ⟨b, o + 3, none⟩ = some (.int .i64 n.k) ∧ w.cell? ⟨b, o + 4, none⟩ = some (.bool n.pr) ∧ w.cell? ⟨b, o + 5, none⟩ = some (.bool n.hd) ∧ w.cell? ⟨b, o + 6, none⟩ = some (.int .i64 n.bf)
theorem Pl7.later {w w' : World} {b o : Nat} {n : Pl} (h : Pl7 w b o n) (g : G w w') : Pl7 w' b o n :=
  ⟨g.at h.1, g.at h.2.1, g.at h.2.2.1, g.at h.2.2.2.1, g.at h.2.2.2.2.1, g.at h.2.2.2.2.2.1, g.at h.2.2.2.2.2.2⟩
def PlsAt (w : World) (a : Option Addr) (l : List Pl) : Prop :=
  l = [] ∨ ∃ b o, a = some ⟨b, o, none⟩ ∧ ∀ (i : Nat) (n : Pl), l[i]? = some n → Pl7 w b (o + i * 7) n
theorem PlsAt.later {w w' : World} {a : Option Addr} {l : List Pl} (h : PlsAt w a l) (g : G w w') : PlsAt w' a l := by
  rcases h with h | ⟨b, o, h, k⟩
  · exact .inl h
  · exact .inr ⟨b, o, h, fun i x hx => (k i x hx).later g⟩
theorem sev_at {W w1 : World} {n : Nat} {a b c d e f g : Value} {t : TypeId} (hs : W.heap.size = n) (h : G (W.alloc (.cells #[a, b, c, d, e, f, g] t)) w1) :
    w1.cell? ⟨n, 0, none⟩ = some a ∧ w1.cell? ⟨n, 1, none⟩ = some b ∧ w1.cell? ⟨n, 2, none⟩ = some c ∧ w1.cell? ⟨n, 3, none⟩ = some d ∧ w1.cell? ⟨n, 4, none⟩ = some e ∧ w1.cell? ⟨n, 5, none⟩ = some f ∧ w1.cell? ⟨n, 6, none⟩ = some g := by
  subst hs
  refine ⟨?_, ?_, ?_, ?_, ?_, ?_, ?_⟩ <;> (rw [h.cell (by simp)]; go_cell)
theorem ckB_split (f : Int) (l : List Pl) : ckB f l = if ckH f l.length = 0 then ckM 0 l else ckH f l.length := by
  unfold ckB ckH
  by_cases h : Sg f
  · rw [if_pos h, if_pos h]
    by_cases k : l.length ≤ 2560
    · rw [if_pos k, if_pos k, if_pos rfl]
    · rw [if_neg k, if_neg k]; rfl
  · rw [if_neg h, if_neg h]; rfl
theorem ckM_ok : ∀ (l : List Pl) (b : Int), 0 ≤ b → ckM b l = 0 → ∀ n ∈ l, POk n.st n.oc ∧ 0 ≤ n.k ∧ n.k ≤ 5
  | [], b, _, _ => fun n h => by cases h
  | n :: l, b, hb, h => by
    unfold ckM at h
    by_cases h0 : ckP b n = 0
    · rw [if_pos h0] at h
      have h3 := ckP_ok.1 h0
      intro m hm
      rcases List.mem_cons.1 hm with rfl | hm
      · exact ⟨h3.2.1, h3.2.2.1, h3.2.2.2.1⟩
      · exact ckM_ok l n.t (by omega) h m hm
    · rw [if_neg h0] at h; exact absurd h h0
theorem ckB_ok {f : Int} {l : List Pl} (h : ckB f l = 0) : Sg f ∧ l.length ≤ 2560 ∧ (∀ n ∈ l, POk n.st n.oc ∧ 0 ≤ n.k ∧ n.k ≤ 5) ∧ ckM 0 l = 0 := by
  unfold ckB at h
  by_cases h1 : Sg f
  · rw [if_pos h1] at h
    by_cases h2 : l.length ≤ 2560
    · rw [if_pos h2] at h
      exact ⟨h1, h2, ckM_ok l 0 (Int.le_refl _) h, h⟩
    · rw [if_neg h2] at h; exact absurd h (by decide)
  · rw [if_neg h1] at h; exact absurd h (by decide)

set_option maxHeartbeats 3200000 in
theorem pCheck_any (t s o k : Int) (pr h : Bool) (bf b : Int) (w : World) : Calls Tryd.prog 39 #[.agg #[.int .i64 t, .int .i64 s, .int .i64 o, .int .i64 k, .bool pr, .bool h, .int .i64 bf], .int .i64 b] w fun e w' => e = .returned (.int .i64 (ckP b ⟨t, s, o, k, pr, h, bf⟩)) ∧ G w w' := by
  by_cases h1 : t < b
  · have HV := Lib.hid (show ckP b ⟨t, s, o, k, pr, h, bf⟩ = 25 from if_pos h1)
    rw [HV.out]
    skip
    go_enter Tryd.func39, Tryd.ntmps39
    go_wp2_with fail
    go_ret
    exact ⟨rfl, by (repeat' (first | (with_reducible exact G.refl _) | (with_reducible assumption) | (with_reducible refine G.drewN ?_ _) | (with_reducible refine G.drew ?_) | (with_reducible refine G.alloc ?_ _) | (with_reducible refine G.setCell ?_ (by first | (with_reducible exact Nat.le_refl _) | (simp; done) | (simp; omega) | omega) _) | (with_reducible refine G.trans ?_ (by assumption))))⟩
  by_cases h2 : POk s o
  · have H2 := Lib.hid (decide_eq_true h2)
    by_cases k1 : k < 0
    · have HV := Lib.hid (show ckP b ⟨t, s, o, k, pr, h, bf⟩ = 11 from (if_neg h1).trans ((if_pos h2).trans (if_neg (by show ¬ (0 ≤ k ∧ k ≤ 5); omega))))
      rw [HV.out]
      clear h2 HV
      skip
      go_enter Tryd.func39, Tryd.ntmps39
      go_wp2_with fail
      refine (isPosition_any _ _ _).mono ?_
      rintro e w1 ⟨rfl, rfl⟩
      rw [H2.out]
      go_wp2_with fail
      go_ret
      exact ⟨rfl, by (repeat' (first | (with_reducible exact G.refl _) | (with_reducible assumption) | (with_reducible refine G.drewN ?_ _) | (with_reducible refine G.drew ?_) | (with_reducible refine G.alloc ?_ _) | (with_reducible refine G.setCell ?_ (by first | (with_reducible exact Nat.le_refl _) | (simp; done) | (simp; omega) | omega) _) | (with_reducible refine G.trans ?_ (by assumption))))⟩
    by_cases k2 : 5 < k
    · have HV := Lib.hid (show ckP b ⟨t, s, o, k, pr, h, bf⟩ = 11 from (if_neg h1).trans ((if_pos h2).trans (if_neg (by show ¬ (0 ≤ k ∧ k ≤ 5); omega))))
      rw [HV.out]
      clear h2 HV
      skip
      go_enter Tryd.func39, Tryd.ntmps39
      go_wp2_with fail
      refine (isPosition_any _ _ _).mono ?_
      rintro e w1 ⟨rfl, rfl⟩
      rw [H2.out]
      go_wp2_with fail
      go_ret
      exact ⟨rfl, by (repeat' (first | (with_reducible exact G.refl _) | (with_reducible assumption) | (with_reducible refine G.drewN ?_ _) | (with_reducible refine G.drew ?_) | (with_reducible refine G.alloc ?_ _) | (with_reducible refine G.setCell ?_ (by first | (with_reducible exact Nat.le_refl _) | (simp; done) | (simp; omega) | omega) _) | (with_reducible refine G.trans ?_ (by assumption))))⟩
    have k3 : 0 ≤ k ∧ k ≤ 5 := by omega
    cases h
    · have HV := Lib.hid (show ckP b ⟨t, s, o, k, pr, false, bf⟩ = 0 from (if_neg h1).trans ((if_pos h2).trans ((if_pos k3).trans (if_neg (fun z => by cases z.1)))))
      rw [HV.out]
      clear h2 HV
      skip
      go_enter Tryd.func39, Tryd.ntmps39
      go_wp2_with fail
      refine (isPosition_any _ _ _).mono ?_
      rintro e w1 ⟨rfl, rfl⟩
      rw [H2.out]
      go_wp2_with fail
      go_ret
      exact ⟨rfl, by (repeat' (first | (with_reducible exact G.refl _) | (with_reducible assumption) | (with_reducible refine G.drewN ?_ _) | (with_reducible refine G.drew ?_) | (with_reducible refine G.alloc ?_ _) | (with_reducible refine G.setCell ?_ (by first | (with_reducible exact Nat.le_refl _) | (simp; done) | (simp; omega) | omega) _) | (with_reducible refine G.trans ?_ (by assumption))))⟩
    · by_cases h3 : AOk bf
      · have H3 := Lib.hid (decide_eq_true h3)
        have HV := Lib.hid (show ckP b ⟨t, s, o, k, pr, true, bf⟩ = 0 from (if_neg h1).trans ((if_pos h2).trans ((if_pos k3).trans (if_neg (fun z => z.2 h3)))))
        rw [HV.out]
        clear h2 h3 HV
        skip
        go_enter Tryd.func39, Tryd.ntmps39
        go_wp2_with fail
        refine (isPosition_any _ _ _).mono ?_
        rintro e w1 ⟨rfl, rfl⟩
        rw [H2.out]
        go_wp2_with fail
        refine (isAlter_any _ _).mono ?_
        rintro e w1 ⟨rfl, rfl⟩
        rw [H3.out]
        go_wp2_with fail
        go_ret
        exact ⟨rfl, by (repeat' (first | (with_reducible exact G.refl _) | (with_reducible assumption) | (with_reducible refine G.drewN ?_ _) | (with_reducible refine G.drew ?_) | (with_reducible refine G.alloc ?_ _) | (with_reducible refine G.setCell ?_ (by first | (with_reducible exact Nat.le_refl _) | (simp; done) | (simp; omega) | omega) _) | (with_reducible refine G.trans ?_ (by assumption))))⟩
      · have H3 := Lib.hid (decide_eq_false h3)
        have HV := Lib.hid (show ckP b ⟨t, s, o, k, pr, true, bf⟩ = 2 from (if_neg h1).trans ((if_pos h2).trans ((if_pos k3).trans (if_pos ⟨rfl, h3⟩))))
        rw [HV.out]
        clear h2 h3 HV
        skip
        go_enter Tryd.func39, Tryd.ntmps39
        go_wp2_with fail
        refine (isPosition_any _ _ _).mono ?_
        rintro e w1 ⟨rfl, rfl⟩
        rw [H2.out]
        go_wp2_with fail
        refine (isAlter_any _ _).mono ?_
        rintro e w1 ⟨rfl, rfl⟩
        rw [H3.out]
        go_wp2_with fail
        go_ret
        exact ⟨rfl, by (repeat' (first | (with_reducible exact G.refl _) | (with_reducible assumption) | (with_reducible refine G.drewN ?_ _) | (with_reducible refine G.drew ?_) | (with_reducible refine G.alloc ?_ _) | (with_reducible refine G.setCell ?_ (by first | (with_reducible exact Nat.le_refl _) | (simp; done) | (simp; omega) | omega) _) | (with_reducible refine G.trans ?_ (by assumption))))⟩
  · have H2 := Lib.hid (decide_eq_false h2)
    have HV := Lib.hid (show ckP b ⟨t, s, o, k, pr, h, bf⟩ = 18 from (if_neg h1).trans (if_neg h2))
    rw [HV.out]
    clear h2 HV
    skip
    go_enter Tryd.func39, Tryd.ntmps39
    go_wp2_with fail
    refine (isPosition_any _ _ _).mono ?_
    rintro e w1 ⟨rfl, rfl⟩
    rw [H2.out]
    go_wp2_with fail
    go_ret
    exact ⟨rfl, by (repeat' (first | (with_reducible exact G.refl _) | (with_reducible assumption) | (with_reducible refine G.drewN ?_ _) | (with_reducible refine G.drew ?_) | (with_reducible refine G.alloc ?_ _) | (with_reducible refine G.setCell ?_ (by first | (with_reducible exact Nat.le_refl _) | (simp; done) | (simp; omega) | omega) _) | (with_reducible refine G.trans ?_ (by assumption))))⟩
set_option maxRecDepth 100000 in
set_option maxHeartbeats 3200000 in
theorem checkPlaces_any (f : Int) (a : Option Addr) (l : List Pl) (n c : Nat) (w : World) (hn : l.length = n) (h1 : PlsAt w a l) :
    Calls Tryd.prog 31 #[.int .i64 f, .slice a n c] w fun e w' => e = .returned (.int .i64 (ckB f l)) ∧ G w w' := by
  subst hn
  have H1 := Lib.hid h1
  clear h1
  obtain ⟨R, hR⟩ : ∃ z : Int, Hid (z = ckB f l) := ⟨_, rfl⟩
  rw [← hR.out]
  by_cases h0 : ckH f l.length = 0
  · have H0 := Lib.hid h0
    have hlen := (ckH_len h0).2
    have HR := Lib.hid (show R = ckM 0 l by rw [hR.out, ckB_split, if_pos h0])
    clear h0 hR
    go_enter Tryd.func31, Tryd.ntmps31
    go_wp2_with fail
    refine (aCheck_any f _ _).mono ?_
    rintro e w1 ⟨rfl, rfl⟩
    rw [H0.out]
    go_wp2_with fail
    go_loopg [6, 19] l.length (fun k y x wr => ∃ (i : Nat) (B : Int), y = .int .i64 B ∧ x = .int .i64 i ∧ k = l.length - i ∧ i ≤ l.length ∧ Hid (R = ckM B (l.drop i)) ∧ G w wr)
    case atStart => exact ⟨0, 0, rfl, rfl, by omega, by omega, Lib.hid (by rw [HR.out]; rfl), by (repeat' (first | (with_reducible exact G.refl _) | (with_reducible assumption) | (with_reducible refine G.drewN ?_ _) | (with_reducible refine G.drew ?_) | (with_reducible refine G.alloc ?_ _) | (with_reducible refine G.setCell ?_ (by first | (with_reducible exact Nat.le_refl _) | (simp; done) | (simp; omega) | omega) _) | (with_reducible refine G.trans ?_ (by assumption))))⟩
    case round =>
      obtain ⟨i, B, rfl, rfl, hg, hi, hA, gr⟩ := hrel
      have HG := Lib.hid hg
      clear hg
      by_cases hin : i < l.length
      · obtain ⟨⟨t, s, o, k, pr, h, bf⟩, hp⟩ : ∃ c, l[i]? = some c := ⟨l[i], List.getElem?_eq_getElem hin⟩
        rcases H1.out with hz | ⟨bl, of, rfl, fc⟩
        · rw [hz] at hin; exact absurd hin (by simp)
        obtain ⟨x0, x1, x2, x3, x4, x5, x6⟩ := (fc i _ hp).later gr
        dsimp only at x0 x1 x2 x3 x4 x5 x6
        have HP := Lib.hid hp
        clear fc hp
        have b1 : (0 : Int) ≤ (i : Int) := by omega
        have b2 : (i : Int) < (l.length : Int) := by omega
        have q1 := IntWalk.i64_in ((i : Int) + 1) (by omega)
        obtain ⟨E, hE⟩ : ∃ z : Int, Hid (z = ckP B ⟨t, s, o, k, pr, h, bf⟩) := ⟨_, rfl⟩
        by_cases e0 : E = 0
        · have HE := Lib.hid (hE.out.symm.trans e0)
          have HA := Lib.hid (hA.out.trans (ckM_step HP.out HE.out))
          dsimp only at HA
          clear e0 hE E
          go_wp2_with fail
          refine (pCheck_any _ _ _ _ _ _ _ _ _).mono ?_
          rintro e w2 ⟨rfl, hG2⟩
          obtain ⟨z0, z1, z2, z3, z4, z5, z6⟩ := sev_at rfl hG2
          rw [HE.out]
          go_wp2_with fail
          go_roundg (l.length - (i + 1))
          case measure => have := HG.out; omega
          case rel => exact ⟨i + 1, t, rfl, by first | rfl | simp, rfl, by omega, HA, by (repeat' (first | (with_reducible exact G.refl _) | (with_reducible assumption) | (with_reducible refine G.drewN ?_ _) | (with_reducible refine G.drew ?_) | (with_reducible refine G.alloc ?_ _) | (with_reducible refine G.setCell ?_ (by first | (with_reducible exact Nat.le_refl _) | (simp; done) | (simp; omega) | omega) _) | (with_reducible refine G.trans ?_ (by assumption))))⟩
        · have HE := Lib.hid hE.out.symm
          have HR2 := Lib.hid (show R = E by rw [hA.out, ckM_stop HP.out (by rw [← hE.out]; exact e0), ← hE.out])
          have b3 : (E == 0) = false := beq_false_of_ne e0
          have b4 : (E != 0) = true := by simp [bne, b3]
          clear e0
          go_wp2_with fail
          refine (pCheck_any _ _ _ _ _ _ _ _ _).mono ?_
          rintro e w2 ⟨rfl, hG2⟩
          rw [HE.out]
          go_wp2_with fail
          go_ret
          exact ⟨by rw [HR2.out]; rfl, by (repeat' (first | (with_reducible exact G.refl _) | (with_reducible assumption) | (with_reducible refine G.drewN ?_ _) | (with_reducible refine G.drew ?_) | (with_reducible refine G.alloc ?_ _) | (with_reducible refine G.setCell ?_ (by first | (with_reducible exact Nat.le_refl _) | (simp; done) | (simp; omega) | omega) _) | (with_reducible refine G.trans ?_ (by assumption))))⟩
      · have hii : i = l.length := by omega
        subst hii
        have HR2 := Lib.hid (show R = 0 by rw [hA.out, List.drop_length]; rfl)
        go_wp2_with fail
        go_ret
        exact ⟨by rw [HR2.out]; rfl, by (repeat' (first | (with_reducible exact G.refl _) | (with_reducible assumption) | (with_reducible refine G.drewN ?_ _) | (with_reducible refine G.drew ?_) | (with_reducible refine G.alloc ?_ _) | (with_reducible refine G.setCell ?_ (by first | (with_reducible exact Nat.le_refl _) | (simp; done) | (simp; omega) | omega) _) | (with_reducible refine G.trans ?_ (by assumption))))⟩
  · have HR := Lib.hid (show ckH f l.length = R by rw [hR.out, ckB_split, if_neg h0])
    rw [HR.out] at h0
    have b3 : (R == 0) = false := beq_false_of_ne h0
    have b4 : (R != 0) = true := by simp [bne, b3]
    clear h0 hR
    go_enter Tryd.func31, Tryd.ntmps31
    go_wp2_with fail
    refine (aCheck_any f _ _).mono ?_
    rintro e w1 ⟨rfl, rfl⟩
    rw [HR.out]
    go_wp2_with fail
    go_ret
    exact ⟨rfl, by (repeat' (first | (with_reducible exact G.refl _) | (with_reducible assumption) | (with_reducible refine G.drewN ?_ _) | (with_reducible refine G.drew ?_) | (with_reducible refine G.alloc ?_ _) | (with_reducible refine G.setCell ?_ (by first | (with_reducible exact Nat.le_refl _) | (simp; done) | (simp; omega) | omega) _) | (with_reducible refine G.trans ?_ (by assumption))))⟩

set_option maxRecDepth 100000 in
set_option maxHeartbeats 3200000 in
theorem Read_bad (f : Int) (a : Option Addr) (l : List Pl) (n c : Nat) (w : World) (hn : l.length = n) (h1 : PlsAt w a l) (h0 : ckB f l ≠ 0) :
    Calls Tryd.prog 19 #[.int .i64 f, .slice a n c] w fun e w' => e = .returned (.tuple #[.slice none 0 0, .int .i64 (ckB f l)]) ∧ G w w' := by
  have H1 := Lib.hid h1
  have HN := Lib.hid hn
  obtain ⟨R, hR⟩ : ∃ z : Int, Hid (ckB f l = z) := ⟨_, rfl⟩
  rw [hR.out] at h0 ⊢
  have b3 : (R == 0) = false := beq_false_of_ne h0
  have b4 : (R != 0) = true := by simp [bne, b3]
  clear h0 h1 hn
  go_enter Tryd.func19, Tryd.ntmps19
  go_wp2_with fail
  refine (checkPlaces_any f a l n c _ HN.out (H1.out.later (by (repeat' (first | (with_reducible exact G.refl _) | (with_reducible assumption) | (with_reducible refine G.drewN ?_ _) | (with_reducible refine G.drew ?_) | (with_reducible refine G.alloc ?_ _) | (with_reducible refine G.setCell ?_ (by first | (with_reducible exact Nat.le_refl _) | (simp; done) | (simp; omega) | omega) _) | (with_reducible refine G.trans ?_ (by assumption))))))).mono ?_
  rintro e w1 ⟨rfl, hG1⟩
  rw [hR.out]
  go_wp2_with fail
  go_returns
  exact ⟨rfl, by (repeat' (first | (with_reducible exact G.refl _) | (with_reducible assumption) | (with_reducible refine G.drewN ?_ _) | (with_reducible refine G.drew ?_) | (with_reducible refine G.alloc ?_ _) | (with_reducible refine G.setCell ?_ (by first | (with_reducible exact Nat.le_refl _) | (simp; done) | (simp; omega) | omega) _) | (with_reducible refine G.trans ?_ (by assumption))))⟩
set_option maxRecDepth 100000 in
set_option maxHeartbeats 12800000 in
theorem Read_ok (f : Int) (a : Option Addr) (l : List Pl) (n c : Nat) (w : World) (hn : l.length = n) (h1 : PlsAt w a l) (hT : Tab w) (h0 : ckB f l = 0) :
    Calls Tryd.prog 19 #[.int .i64 f, .slice a n c] w fun e w' => ∃ v, e = .returned (.tuple #[v, .int .i64 0]) ∧ Row inE 3 1 w.heap.size w' v (rdL (sg0 f) l) ∧ G w w' := by
  subst hn
  obtain ⟨i0, hi, hz0, hz1, hz2⟩ := info_parts' iInfo
  have HT := Lib.hid hT
  have H1 := Lib.hid h1
  have H0 := Lib.hid h0
  have HK := Lib.hid (ckB_ok h0)
  have hle : l.length ≤ 2560 := HK.out.2.1
  clear hT h1 h0
  obtain ⟨Z, hZ, hZs, hZn, hZc⟩ := zc_ex
  have HZ := Lib.hid hZc
  clear hZc
  have HLA := Lib.hid (arrL_len (sg0 f))
  have HLO := Lib.hid (arrL_one (sg0 f))
  go_enter Tryd.func19, Tryd.ntmps19
  go_wp2_with fail
  refine (checkPlaces_any f a l l.length c _ rfl (H1.out.later (by (repeat' (first | (with_reducible exact G.refl _) | (with_reducible assumption) | (with_reducible refine G.drewN ?_ _) | (with_reducible refine G.drew ?_) | (with_reducible refine G.alloc ?_ _) | (with_reducible refine G.setCell ?_ (by first | (with_reducible exact Nat.le_refl _) | (simp; done) | (simp; omega) | omega) _) | (with_reducible refine G.trans ?_ (by assumption))))))).mono ?_
  rintro e w0 ⟨rfl, hG0⟩
  rw [H0.out]
  have g0 : G w w0 := by (repeat' (first | (with_reducible exact G.refl _) | (with_reducible assumption) | (with_reducible refine G.drewN ?_ _) | (with_reducible refine G.drew ?_) | (with_reducible refine G.alloc ?_ _) | (with_reducible refine G.setCell ?_ (by first | (with_reducible exact Nat.le_refl _) | (simp; done) | (simp; omega) | omega) _) | (with_reducible refine G.trans ?_ (by assumption))))
  go_wp2_with fail
  refine (signature_any f _ HK.out.1 (HT.out.later (by (repeat' (first | (with_reducible exact G.refl _) | (with_reducible assumption) | (with_reducible refine G.drewN ?_ _) | (with_reducible refine G.drew ?_) | (with_reducible refine G.alloc ?_ _) | (with_reducible refine G.setCell ?_ (by first | (with_reducible exact Nat.le_refl _) | (simp; done) | (simp; omega) | omega) _) | (with_reducible refine G.trans ?_ (by assumption))))))).mono ?_
  rintro e w1 ⟨rfl, hG1⟩
  have g1 : G w w1 := by (repeat' (first | (with_reducible exact G.refl _) | (with_reducible assumption) | (with_reducible refine G.drewN ?_ _) | (with_reducible refine G.drew ?_) | (with_reducible refine G.alloc ?_ _) | (with_reducible refine G.setCell ?_ (by first | (with_reducible exact Nat.le_refl _) | (simp; done) | (simp; omega) | omega) _) | (with_reducible refine G.trans ?_ (by assumption))))
  have n6 := Lib.hid (Arr.new w1 HZ.out 58)
  have HI := Lib.hid (show (Tryd.prog.info? 58).map (·.size) = some (arrL (sg0 f)).toArray.size by rw [List.size_toArray, HLA.out]; exact aInfo)
  have a6 := Lib.hid (n6.out.stored (sg0 f))
  have g2 : G w ((w1.alloc (.cells Z 58)).setCells w1.heap.size 0 (arrL (sg0 f))) := G.setCells w1.heap.size g1.size _ _ (g1.alloc _)
  have s2 := Lib.hid (show ((w1.alloc (.cells Z 58)).setCells w1.heap.size 0 (arrL (sg0 f))).heap.size = w1.heap.size + 1 by rw [size_setCells]; simp)
  have HTH := Lib.hid n6.out.there
  have HFIT : Hid ((arrL (sg0 f)).toArray.size = 77) := Lib.hid (by rw [List.size_toArray]; exact HLA.out)
  clear HLA
  generalize arrL (sg0 f) = LA at *
  go_wp2_with (refine wpList_store_mid rfl 58 _ _ rfl w1.heap.size 0 LA.toArray rfl rfl (by rw [HFIT.out]; exact HTH.out) HI.out HLO.out ?_)
  generalize (w1.alloc (.cells Z 58)).setCells w1.heap.size 0 LA = W2 at *
  obtain ⟨b7, hb7⟩ : ∃ z : Nat, Hid (w1.heap.size = z) := ⟨_, rfl⟩
  obtain ⟨base, hbase⟩ : ∃ z : Nat, Hid (W2.heap.size = z) := ⟨_, rfl⟩
  have hlt : b7 < base := by have := hb7.out; have := hbase.out; have := s2.out; omega
  have hwb : w.heap.size ≤ b7 := by have := hb7.out; have := g1.size; omega
  rw [hb7.out] at a6 ⊢
  clear n6 HTH
  go_loopg [8, 22] l.length (fun q y x wr => ∃ (i : Nat) (v : Value) (M : List Int) (F : Int → Int), v = y ∧ x = .int .i64 i ∧ q = l.length - i ∧ i ≤ l.length ∧ M.length = i ∧ Hid (M ++ rdL F (l.drop i) = rdL (sg0 f) l) ∧ Hid (Row inE 3 1 base wr v M) ∧ Hid (Arr wr b7 F) ∧ G w wr ∧ base ≤ wr.heap.size)
  case atStart => exact ⟨0, _, [], sg0 f, rfl, rfl, by omega, by omega, rfl, Lib.hid rfl, Lib.hid (Row.nil _), a6, g2, by have := hbase.out; omega⟩
  case round =>
    clear a6
    obtain ⟨i, v, M, F, rfl, rfl, hq, hi', hM, hD, hR, A0, gr, hbs⟩ := hrel
    have HQ := Lib.hid hq
    have HM := Lib.hid hM
    clear hq
    by_cases hin : i < l.length
    · obtain ⟨⟨t, s, o, k, pr, hd, bf⟩, hp⟩ : ∃ c, l[i]? = some c := ⟨l[i], List.getElem?_eq_getElem hin⟩
      rcases H1.out with hz | ⟨bl, of, rfl, fc⟩
      · rw [hz] at hin; exact absurd hin (by simp)
      obtain ⟨x0, x1, x2, x3, x4, x5, x6⟩ := (fc i _ hp).later gr
      dsimp only at x0 x1 x2 x3 x4 x5 x6
      have HP := Lib.hid hp
      obtain ⟨hpos, hk0, hk5⟩ := HK.out.2.2.1 _ (List.mem_of_getElem? hp)
      dsimp only at hpos hk0 hk5
      have HPOS := Lib.hid hpos
      obtain ⟨P, hP⟩ : ∃ z : Int, Hid (z = ix s o) := ⟨_, rfl⟩
      have hPb : 0 ≤ P ∧ P < 77 := by rw [hP.out]; exact ix_bd hpos
      obtain ⟨p0, p1⟩ := hPb
      obtain ⟨pn, hpn⟩ : ∃ z : Nat, P = (z : Int) := ⟨P.toNat, by omega⟩
      have hpn2 : P.toNat = pn := by omega
      have p2 : pn < 77 := by omega
      obtain ⟨zc6, zf6⟩ := A0.out pn p2
      rw [← hpn] at zc6
      obtain ⟨FP, hFP⟩ : ∃ z : Int, Hid (z = F P) := ⟨_, rfl⟩
      rw [← hFP.out] at zc6
      have HPN := Lib.hid hpn
      have RNE := Lib.hid (Row.ne hR.out hlt)
      have lt7 : b7 < wr.heap.size := by omega
      have b1 : (0 : Int) ≤ (i : Int) := by omega
      have b2 : (i : Int) < (l.length : Int) := by omega
      have q1 := IntWalk.i64_in ((i : Int) + 1) (by omega)
      have q3 := IntWalk.i64_in (k - 3) (by omega)
      have HD2 := Lib.hid (show (M ++ [rA F ⟨t, s, o, k, pr, hd, bf⟩]) ++ rdL (rF F ⟨t, s, o, k, pr, hd, bf⟩) (l.drop (i + 1)) = rdL (sg0 f) l by
        rw [← hD.out, rdL_step HP.out, List.append_assoc]; rfl)
      clear fc hp hpos hpn hk0 hk5 hD
      by_cases k0 : k = 0
      · have k1 : (k == 0) = true := by rw [k0]; rfl
        have k2 : (k != 0) = false := by simp [bne, k1]
        have HK0 := Lib.hid k0
        clear k0
        cases hd
        · go_wp2_with fail
          refine (index_any s o _ HPOS.out).mono ?_
          rintro e w4 ⟨rfl, rfl⟩
          rw [← hP.out]
          go_wp2_with (at_builtin; refine wpList_append_own _ rfl _ _ 32 rfl base 3 i0 (.int .i64 0) 1 8 Tryd.underlying32 hi hz0 hz1 hz2 rfl (by decide) v M.length (M.flatMap inE) rfl (show Row inE 3 1 base _ v M from by repeat' (first | (with_reducible exact hR.out) | (with_reducible refine Row.al ?_ _) | (with_reducible refine Row.farN ?_ RNE.out _ _))) ⟨wr.heap.size + 1, 0, none⟩ 1 1 [.int .i64 (FP)] rfl rfl (new_add _ _ [.int .i64 (FP)] _ (by simp [go_sem])) (by simp [Value.oneCell']) (by unfold maxLen; omega) (by omega) (by simp [go_sem]; omega) ?_; intro v' w6 hown' hgrow _)
          have RN := Lib.hid (Row.more (enc := inE) (M := M) (x := FP) hown')
          have AN : Hid (Arr w6 b7 (F)) := Lib.hid (Arr.grown (row := v.ownBlock) (by repeat' (first | (with_reducible exact A0.out) | (with_reducible refine Arr.al ?_ _) | (with_reducible refine Arr.setN ?_ HPN.out p2 _) | (with_reducible refine Arr.farC ?_ (by omega) _ _))) hgrow RNE.out)
          have gN : G w w6 := by
            refine Below.grown (B := w.heap.size) ?_ hgrow ?_ (fun k hk => by have := Row.own hR.out k hk; omega)
            · show G w _
              (repeat' (first | (with_reducible exact G.refl _) | (with_reducible assumption) | (with_reducible refine G.drewN ?_ _) | (with_reducible refine G.drew ?_) | (with_reducible refine G.alloc ?_ _) | (with_reducible refine G.setCell ?_ (by first | (with_reducible exact Nat.le_refl _) | (simp; done) | (simp; omega) | omega) _) | (with_reducible refine G.trans ?_ (by assumption))))
            · simp [go_sem]; omega
          have hsN : base ≤ w6.heap.size := by have := hgrow.size; simp [go_sem] at this; omega
          have h1 := HD2.out
          rw [show rA F ⟨t, s, o, k, pr, false, bf⟩ = FP by rw [hFP.out, hP.out]; exact (if_pos HK0.out).trans (if_neg (fun z => by cases z)), show rF F ⟨t, s, o, k, pr, false, bf⟩ = F from if_pos HK0.out] at h1
          go_roundg (l.length - (i + 1))
          case measure => have := HQ.out; omega
          case rel => exact ⟨i + 1, v', M ++ [FP], _, rfl, by first | rfl | simp, rfl, by omega, by rw [List.length_append, HM.out]; rfl, Lib.hid h1, RN, AN, gN, hsN⟩
        · go_wp2_with fail
          refine (index_any s o _ HPOS.out).mono ?_
          rintro e w4 ⟨rfl, rfl⟩
          rw [← hP.out]
          go_wp2_with (at_builtin; refine wpList_append_own _ rfl _ _ 32 rfl base 3 i0 (.int .i64 0) 1 8 Tryd.underlying32 hi hz0 hz1 hz2 rfl (by decide) v M.length (M.flatMap inE) rfl (show Row inE 3 1 base _ v M from by repeat' (first | (with_reducible exact hR.out) | (with_reducible refine Row.al ?_ _) | (with_reducible refine Row.farN ?_ RNE.out _ _))) ⟨wr.heap.size + 1, 0, none⟩ 1 1 [.int .i64 (bf)] rfl rfl (new_add _ _ [.int .i64 (bf)] _ (by simp [go_sem])) (by simp [Value.oneCell']) (by unfold maxLen; omega) (by omega) (by simp [go_sem]; omega) ?_; intro v' w6 hown' hgrow _)
          have RN := Lib.hid (Row.more (enc := inE) (M := M) (x := bf) hown')
          have AN : Hid (Arr w6 b7 (F)) := Lib.hid (Arr.grown (row := v.ownBlock) (by repeat' (first | (with_reducible exact A0.out) | (with_reducible refine Arr.al ?_ _) | (with_reducible refine Arr.setN ?_ HPN.out p2 _) | (with_reducible refine Arr.farC ?_ (by omega) _ _))) hgrow RNE.out)
          have gN : G w w6 := by
            refine Below.grown (B := w.heap.size) ?_ hgrow ?_ (fun k hk => by have := Row.own hR.out k hk; omega)
            · show G w _
              (repeat' (first | (with_reducible exact G.refl _) | (with_reducible assumption) | (with_reducible refine G.drewN ?_ _) | (with_reducible refine G.drew ?_) | (with_reducible refine G.alloc ?_ _) | (with_reducible refine G.setCell ?_ (by first | (with_reducible exact Nat.le_refl _) | (simp; done) | (simp; omega) | omega) _) | (with_reducible refine G.trans ?_ (by assumption))))
            · simp [go_sem]; omega
          have hsN : base ≤ w6.heap.size := by have := hgrow.size; simp [go_sem] at this; omega
          have h1 := HD2.out
          rw [show rA F ⟨t, s, o, k, pr, true, bf⟩ = bf from (if_pos HK0.out).trans (if_pos rfl), show rF F ⟨t, s, o, k, pr, true, bf⟩ = F from if_pos HK0.out] at h1
          go_roundg (l.length - (i + 1))
          case measure => have := HQ.out; omega
          case rel => exact ⟨i + 1, v', M ++ [bf], _, rfl, by first | rfl | simp, rfl, by omega, by rw [List.length_append, HM.out]; rfl, Lib.hid h1, RN, AN, gN, hsN⟩
      · have k1 : (k == 0) = false := beq_false_of_ne k0
        have k2 : (k != 0) = true := by simp [bne, k1]
        have HK0 := Lib.hid k0
        clear k0
        go_wp2_with fail
        refine (index_any s o _ HPOS.out).mono ?_
        rintro e w4 ⟨rfl, rfl⟩
        rw [← hP.out]
        go_wp2_with (at_builtin; refine wpList_append_own _ rfl _ _ 32 rfl base 3 i0 (.int .i64 0) 1 8 Tryd.underlying32 hi hz0 hz1 hz2 rfl (by decide) v M.length (M.flatMap inE) rfl (show Row inE 3 1 base _ v M from by repeat' (first | (with_reducible exact hR.out) | (with_reducible refine Row.al ?_ _) | (with_reducible refine Row.farN ?_ RNE.out _ _))) ⟨wr.heap.size + 1, 0, none⟩ 1 1 [.int .i64 (k - 3)] rfl rfl (new_add _ _ [.int .i64 (k - 3)] _ (by simp [go_sem])) (by simp [Value.oneCell']) (by unfold maxLen; omega) (by omega) (by simp [go_sem]; omega) ?_; intro v' w6 hown' hgrow _)
        have RN := Lib.hid (Row.more (enc := inE) (M := M) (x := k - 3) hown')
        have AN : Hid (Arr w6 b7 (upd F P (k - 3))) := Lib.hid (Arr.grown (row := v.ownBlock) (by repeat' (first | (with_reducible exact A0.out) | (with_reducible refine Arr.al ?_ _) | (with_reducible refine Arr.setN ?_ HPN.out p2 _) | (with_reducible refine Arr.farC ?_ (by omega) _ _))) hgrow RNE.out)
        have gN : G w w6 := by
          refine Below.grown (B := w.heap.size) ?_ hgrow ?_ (fun k hk => by have := Row.own hR.out k hk; omega)
          · show G w _
            (repeat' (first | (with_reducible exact G.refl _) | (with_reducible assumption) | (with_reducible refine G.drewN ?_ _) | (with_reducible refine G.drew ?_) | (with_reducible refine G.alloc ?_ _) | (with_reducible refine G.setCell ?_ (by first | (with_reducible exact Nat.le_refl _) | (simp; done) | (simp; omega) | omega) _) | (with_reducible refine G.trans ?_ (by assumption))))
          · simp [go_sem]; omega
        have hsN : base ≤ w6.heap.size := by have := hgrow.size; simp [go_sem] at this; omega
        have h1 := HD2.out
        rw [show rA F ⟨t, s, o, k, pr, hd, bf⟩ = k - 3 from if_neg HK0.out, show rF F ⟨t, s, o, k, pr, hd, bf⟩ = upd F P (k - 3) by rw [hP.out]; exact if_neg HK0.out] at h1
        go_roundg (l.length - (i + 1))
        case measure => have := HQ.out; omega
        case rel => exact ⟨i + 1, v', M ++ [k - 3], _, rfl, by first | rfl | simp, rfl, by omega, by rw [List.length_append, HM.out]; rfl, Lib.hid h1, RN, AN, gN, hsN⟩
    · have hii : i = l.length := by omega
      subst hii
      have HV := Lib.hid (show M = rdL (sg0 f) l by rw [← hD.out, List.drop_length]; simp [rdL])
      go_wp2_with fail
      go_returns
      refine ⟨_, rfl, ?_, gr⟩
      rw [← HV.out]
      exact own_base hR.out (by omega)
end Go.Proofs.YtghlecocnflbnaaDoor
