import Derived.Test.YtkmmmmbnddkcgaaDoorRefParse
import Derived.Test.YtkmmmmbnddkcgaaDoorArr
/-! The reference's Parse. -/
namespace Go.Proofs.YtkmmmmbnddkcgaaDoor
open Go.RowKit QM QP

def RParseIs (s : List UInt8) (e : Ending) : Prop := e = .returned (.tuple #[.agg #[.int .i64 (parseOut s).1, .int .i64 ((parseOut s).2.1 + 1)], .int .i64 ((parseOut s).2.2.1 : Nat), .int .i64 ((parseOut s).2.2.2 : Nat)])
theorem rParseIs_of {s : List UInt8} {a b c d a' b' : Int} {x y : Nat} (h : parseOut s = (a, b, x, y)) (h0 : a' = a) (h3 : b' = b + 1) (h1 : c = x) (h2 : d = y) : RParseIs s (.returned (.tuple #[.agg #[.int .i64 a', .int .i64 b'], .int .i64 c, .int .i64 d])) := by
  unfold RParseIs; rw [h, h0, h1, h2, h3]
theorem rnumber_int (s : ByteArray) (st : Int) (k : Nat) (w : World) (hk : st = k) (h1 : k ≤ s.size) (h2 : s.size ≤ 1000000) :
    Calls Tryd.prog 63 #[.string s, .int .i64 st] w fun e w' => NumRIs s k e ∧ w = w' := by
  subst hk; exact rnumber_any s k w h1 h2
theorem first_yes {s : ByteArray} (h : neg s.data.toList = true) : ∃ h : 0 < s.size, s[0] = 45 := by
  unfold neg at h
  have hl : s.data.toList.length = s.size := by simp
  rcases Nat.eq_zero_or_pos s.size with z | z
  · have : s.data.toList = [] := List.eq_nil_of_length_eq_zero (by rw [hl, z])
    rw [this] at h; simp at h
  · refine ⟨z, ?_⟩
    have e := drop_at s 0 z
    rw [List.drop_zero] at e
    rw [e] at h
    simpa using h
theorem first_no {s : ByteArray} (h : neg s.data.toList = false) (z : 0 < s.size) : s[0] ≠ 45 := by
  unfold neg at h
  have e := drop_at s 0 z
  rw [List.drop_zero] at e
  rw [e] at h
  simpa using h

set_option maxRecDepth 20000 in
set_option maxHeartbeats 3200000 in
theorem rParse_any (s : ByteArray) (w : World) (h2 : s.size ≤ 1000000) :
    Calls Tryd.prog 42 #[.string s] w fun e w' => RParseIs s.data.toList e ∧ G w w' := by
  have hl : s.data.toList.length = s.size := by simp
  by_cases h0 : s.size = 0
  · have hn : neg s.data.toList = false := by
      have : s.data.toList = [] := List.eq_nil_of_length_eq_zero (by rw [hl, h0])
      rw [this]; rfl
    have k1 : (s.toList == []) = true := by
      rw [toList_is]
      have : s.data.toList = [] := List.eq_nil_of_length_eq_zero (by rw [hl, h0])
      rw [this]; rfl
    go_enter Tryd.func42, Tryd.ntmps42
    go_wp2_with fail
    refine (rnumber_int s _ 0 _ (by omega) (by omega) h2).mono ?_
    rintro e w2 ⟨he, rfl⟩
    unfold NumRIs at he
    have b1 := numP_end s.data.toList 0 (by rw [hl]; omega)
    have b2 := numP_small s.data.toList 0
    have hf : from0 s.data.toList = 0 := by unfold from0; rw [hn]; rfl
    obtain ⟨x, y, z, hP⟩ : ∃ x y z : Nat, numP s.data.toList 0 = (x, y, z) := ⟨_, _, _, rfl⟩
    have eP := num_same s.data.toList 0 (by rw [hl]; omega)
    rw [hP] at eP b1 b2
    rw [hl] at b1
    obtain ⟨b3, b4⟩ := b1
    have HP : Hid (numP s.data.toList (from0 s.data.toList) = (x, y, z) ∧ neg s.data.toList = false) := ⟨by rw [hf]; exact hP, hn⟩
    simp only [] at b2 b3 b4
    clear hP hf hn
    by_cases hz : z = 0
    · subst hz
      rw [show numR s.data.toList 0 = (x, y, 0, 0) from eP] at he
      clear eP
      subst he
      by_cases hy : y = s.size
      · subst hy
        have q := quot_one (m := (x : Int)) HP.out.1 (by rw [HP.out.2]; rfl) (Or.inr hl.symm)
        have HQ := Lib.hid q
        clear q
        obtain ⟨N1, HN1⟩ : ∃ z : Int, Hid (z = oN ((x : Int)) (1)) := ⟨_, rfl⟩
        obtain ⟨O1, HO1⟩ : ∃ z : Int, Hid (z = oD ((x : Int)) (1) - 1) := ⟨_, rfl⟩
        obtain ⟨E1, HE1⟩ : ∃ z : Int, Hid (z = oE ((x : Int)) (1)) := ⟨_, rfl⟩
        have P : parseOut s.data.toList = if E1 ≠ 0 ∨ txt N1 O1 ≠ s.data.toList then (0, 0, 0, 3) else (N1, O1, 0, 0) := by
          rw [HE1.out, HN1.out, HO1.out]; unfold parseOut; rw [HQ.out]; simp
        have HPO := Lib.hid P
        have hC : Cn N1 O1 := by rw [HN1.out, HO1.out]; exact cn_of _ _
        have hD : Hid (oD ((x : Int)) (1) = O1 + 1) := by have := HO1.out; unfold Hid; omega
        clear P HQ
        go_wp2_with fail
        refine (rOf_any ((x : Int)) (1) _ (by omega) (by omega) (by omega) (by omega)).mono ?_
        rintro e w3 ⟨rfl, hG3⟩
        rw [hD.out, ← HN1.out, ← HE1.out]
        obtain ⟨r1, r2, r3, r4, r5, r6, r7, r8, r9⟩ := two_cells hG3
        by_cases hE : E1 = 0
        · subst hE
          go_wp2_with fail
          refine (rText_any _ _ _ hC).mono ?_
          rintro e w4 ⟨rfl, hG4⟩
          have hG5 := hG3.trans (G.trans (by (repeat' (first | (with_reducible exact G.refl _) | (with_reducible assumption) | (with_reducible refine G.drewN ?_ _) | (with_reducible refine G.drew ?_) | (with_reducible refine G.alloc ?_ _) | (with_reducible refine G.setCell ?_ (by first | (with_reducible exact Nat.le_refl _) | (simp; done) | (simp; omega) | omega) _) | (with_reducible refine G.trans ?_ (by assumption))))) hG4)
          obtain ⟨t1, t2, t3, t4, t5, t6, t7, t8, t9⟩ := two_cells hG5
          obtain ⟨u1, u2⟩ := box_later hG4
          have gw : G w w4 := G.trans (by (repeat' (first | (with_reducible exact G.refl _) | (with_reducible assumption) | (with_reducible refine G.drewN ?_ _) | (with_reducible refine G.drew ?_) | (with_reducible refine G.alloc ?_ _) | (with_reducible refine G.setCell ?_ (by first | (with_reducible exact Nat.le_refl _) | (simp; done) | (simp; omega) | omega) _) | (with_reducible refine G.trans ?_ (by assumption))))) hG5
          clear r1 r2 r3 r4 r5 r6 r7 r8 r9
          by_cases hx : txt N1 O1 = s.data.toList
          · have P2 : parseOut s.data.toList = (N1, O1, 0, 0) := by rw [HPO.out, if_neg (by simp [hx])]
            have HP2 := Lib.hid P2
            have HX := Lib.hid hx
            clear P2 hx
            have hq : (txt N1 O1 == s.toList) = true := by rw [toList_is, HX.out]; simp
            go_wp2
            refine bodyPost_ret (v := .tuple #[.agg #[.int .i64 N1, .int .i64 (O1 + 1)], .int .i64 0, .int .i64 0]) (by simp [results, Tryd.results42, go_sem, t1, t2]) rfl ⟨rParseIs_of HP2.out rfl rfl rfl rfl, by (repeat' (first | (with_reducible exact G.refl _) | (with_reducible assumption) | (with_reducible refine G.drewN ?_ _) | (with_reducible refine G.drew ?_) | (with_reducible refine G.alloc ?_ _) | (with_reducible refine G.setCell ?_ (by first | (with_reducible exact Nat.le_refl _) | (simp; done) | (simp; omega) | omega) _) | (with_reducible refine G.trans ?_ (by assumption))))⟩
          · have P2 : parseOut s.data.toList = (0, 0, 0, 3) := by rw [HPO.out, if_pos (Or.inr hx)]
            have HP2 := Lib.hid P2
            have hq : (txt N1 O1 == s.toList) = false := by rw [toList_is]; simpa using hx
            clear P2 hx
            go_wp2
            refine bodyPost_ret (v := .tuple #[.agg #[.int .i64 0, .int .i64 1], .int .i64 0, .int .i64 3]) (by simp [results, Tryd.results42, go_sem, t1, t2]) rfl ⟨rParseIs_of HP2.out rfl rfl rfl rfl, by (repeat' (first | (with_reducible exact G.refl _) | (with_reducible assumption) | (with_reducible refine G.drewN ?_ _) | (with_reducible refine G.drew ?_) | (with_reducible refine G.alloc ?_ _) | (with_reducible refine G.setCell ?_ (by first | (with_reducible exact Nat.le_refl _) | (simp; done) | (simp; omega) | omega) _) | (with_reducible refine G.trans ?_ (by assumption))))⟩
        · have hE1 : (E1 == 0) = false := by simpa using hE
          clear r1 r2 r3 r4 r5 r6 r7 r8 r9
          obtain ⟨r1, r2, r3, r4, r5, r6, r7, r8, r9⟩ := two_cells (G.alloc hG3 (.cells #[.int .i64 N1, .int .i64 (O1 + 1)] 28))
          have P2 : parseOut s.data.toList = (0, 0, 0, 3) := by rw [HPO.out, if_pos (Or.inl hE)]
          have HP2 := Lib.hid P2
          have gw : G w w3 := G.trans (by (repeat' (first | (with_reducible exact G.refl _) | (with_reducible assumption) | (with_reducible refine G.drewN ?_ _) | (with_reducible refine G.drew ?_) | (with_reducible refine G.alloc ?_ _) | (with_reducible refine G.setCell ?_ (by first | (with_reducible exact Nat.le_refl _) | (simp; done) | (simp; omega) | omega) _) | (with_reducible refine G.trans ?_ (by assumption))))) hG3
          clear P2
          go_wp2
          refine bodyPost_ret (v := .tuple #[.agg #[.int .i64 0, .int .i64 1], .int .i64 0, .int .i64 3]) (by simp [results, Tryd.results42, go_sem, r1, r2]) rfl ⟨rParseIs_of HP2.out rfl rfl rfl rfl, by (repeat' (first | (with_reducible exact G.refl _) | (with_reducible assumption) | (with_reducible refine G.drewN ?_ _) | (with_reducible refine G.drew ?_) | (with_reducible refine G.alloc ?_ _) | (with_reducible refine G.setCell ?_ (by first | (with_reducible exact Nat.le_refl _) | (simp; done) | (simp; omega) | omega) _) | (with_reducible refine G.trans ?_ (by assumption))))⟩
      · exfalso; omega
    · rw [show numR s.data.toList 0 = (0, 0, z, y) from eP.trans (if_neg hz)] at he
      clear eP
      subst he
      have hz3 : ((z : Int) == 0) = false := by simp; omega
      have q := quot_one (m := (x : Int)) HP.out.1 (by rw [HP.out.2]; rfl) (Or.inl hz)
      have HQ := Lib.hid q
      clear q
      have P : parseOut s.data.toList = (0, 0, y, z) := by unfold parseOut; rw [HQ.out] <;> simp [hz]
      have HPO := Lib.hid P
      clear P HQ
      go_wp2
      refine bodyPost_ret (v := .tuple #[.agg #[.int .i64 0, .int .i64 1], .int .i64 (y : Nat), .int .i64 (z : Nat)]) (by simp [results, Tryd.results42, go_sem]) rfl ⟨rParseIs_of HPO.out rfl rfl rfl rfl, by (repeat' (first | (with_reducible exact G.refl _) | (with_reducible assumption) | (with_reducible refine G.drewN ?_ _) | (with_reducible refine G.drew ?_) | (with_reducible refine G.alloc ?_ _) | (with_reducible refine G.setCell ?_ (by first | (with_reducible exact Nat.le_refl _) | (simp; done) | (simp; omega) | omega) _) | (with_reducible refine G.trans ?_ (by assumption))))⟩
  have hp : 0 < s.size := by omega
  have k1 : (s.toList == []) = false := by
    rw [toList_is]
    have : s.data.toList ≠ [] := fun q => by rw [q] at hl; simp at hl; omega
    simpa using this
  cases hn : neg s.data.toList
  · have n45 : s[0].toNat ≠ 45 := fun z => first_no hn hp (by apply UInt8.toNat_inj.1; rw [z]; rfl)
    have k2 : ((s[0].toNat : Int) == 45) = false := by simp; omega
    clear n45
    go_enter Tryd.func42, Tryd.ntmps42
    go_wp2_with fail
    refine (rnumber_int s _ 0 _ (by omega) (by omega) h2).mono ?_
    rintro e w2 ⟨he, rfl⟩
    unfold NumRIs at he
    have b1 := numP_end s.data.toList 0 (by rw [hl]; omega)
    have b2 := numP_small s.data.toList 0
    have hf : from0 s.data.toList = 0 := by unfold from0; rw [hn]; rfl
    obtain ⟨x, y, z, hP⟩ : ∃ x y z : Nat, numP s.data.toList 0 = (x, y, z) := ⟨_, _, _, rfl⟩
    have eP := num_same s.data.toList 0 (by rw [hl]; omega)
    rw [hP] at eP b1 b2
    rw [hl] at b1
    obtain ⟨b3, b4⟩ := b1
    have HP : Hid (numP s.data.toList (from0 s.data.toList) = (x, y, z) ∧ neg s.data.toList = false) := ⟨by rw [hf]; exact hP, hn⟩
    simp only [] at b2 b3 b4
    clear hP hf hn
    by_cases hz : z = 0
    · subst hz
      rw [show numR s.data.toList 0 = (x, y, 0, 0) from eP] at he
      clear eP
      subst he
      by_cases hy : y = s.size
      · subst hy
        have q := quot_one (m := (x : Int)) HP.out.1 (by rw [HP.out.2]; rfl) (Or.inr hl.symm)
        have HQ := Lib.hid q
        clear q
        obtain ⟨N1, HN1⟩ : ∃ z : Int, Hid (z = oN ((x : Int)) (1)) := ⟨_, rfl⟩
        obtain ⟨O1, HO1⟩ : ∃ z : Int, Hid (z = oD ((x : Int)) (1) - 1) := ⟨_, rfl⟩
        obtain ⟨E1, HE1⟩ : ∃ z : Int, Hid (z = oE ((x : Int)) (1)) := ⟨_, rfl⟩
        have P : parseOut s.data.toList = if E1 ≠ 0 ∨ txt N1 O1 ≠ s.data.toList then (0, 0, 0, 3) else (N1, O1, 0, 0) := by
          rw [HE1.out, HN1.out, HO1.out]; unfold parseOut; rw [HQ.out]; simp
        have HPO := Lib.hid P
        have hC : Cn N1 O1 := by rw [HN1.out, HO1.out]; exact cn_of _ _
        have hD : Hid (oD ((x : Int)) (1) = O1 + 1) := by have := HO1.out; unfold Hid; omega
        clear P HQ
        go_wp2_with fail
        refine (rOf_any ((x : Int)) (1) _ (by omega) (by omega) (by omega) (by omega)).mono ?_
        rintro e w3 ⟨rfl, hG3⟩
        rw [hD.out, ← HN1.out, ← HE1.out]
        obtain ⟨r1, r2, r3, r4, r5, r6, r7, r8, r9⟩ := two_cells hG3
        by_cases hE : E1 = 0
        · subst hE
          go_wp2_with fail
          refine (rText_any _ _ _ hC).mono ?_
          rintro e w4 ⟨rfl, hG4⟩
          have hG5 := hG3.trans (G.trans (by (repeat' (first | (with_reducible exact G.refl _) | (with_reducible assumption) | (with_reducible refine G.drewN ?_ _) | (with_reducible refine G.drew ?_) | (with_reducible refine G.alloc ?_ _) | (with_reducible refine G.setCell ?_ (by first | (with_reducible exact Nat.le_refl _) | (simp; done) | (simp; omega) | omega) _) | (with_reducible refine G.trans ?_ (by assumption))))) hG4)
          obtain ⟨t1, t2, t3, t4, t5, t6, t7, t8, t9⟩ := two_cells hG5
          obtain ⟨u1, u2⟩ := box_later hG4
          have gw : G w w4 := G.trans (by (repeat' (first | (with_reducible exact G.refl _) | (with_reducible assumption) | (with_reducible refine G.drewN ?_ _) | (with_reducible refine G.drew ?_) | (with_reducible refine G.alloc ?_ _) | (with_reducible refine G.setCell ?_ (by first | (with_reducible exact Nat.le_refl _) | (simp; done) | (simp; omega) | omega) _) | (with_reducible refine G.trans ?_ (by assumption))))) hG5
          clear r1 r2 r3 r4 r5 r6 r7 r8 r9
          by_cases hx : txt N1 O1 = s.data.toList
          · have P2 : parseOut s.data.toList = (N1, O1, 0, 0) := by rw [HPO.out, if_neg (by simp [hx])]
            have HP2 := Lib.hid P2
            have HX := Lib.hid hx
            clear P2 hx
            have hq : (txt N1 O1 == s.toList) = true := by rw [toList_is, HX.out]; simp
            go_wp2
            refine bodyPost_ret (v := .tuple #[.agg #[.int .i64 N1, .int .i64 (O1 + 1)], .int .i64 0, .int .i64 0]) (by simp [results, Tryd.results42, go_sem, t1, t2]) rfl ⟨rParseIs_of HP2.out rfl rfl rfl rfl, by (repeat' (first | (with_reducible exact G.refl _) | (with_reducible assumption) | (with_reducible refine G.drewN ?_ _) | (with_reducible refine G.drew ?_) | (with_reducible refine G.alloc ?_ _) | (with_reducible refine G.setCell ?_ (by first | (with_reducible exact Nat.le_refl _) | (simp; done) | (simp; omega) | omega) _) | (with_reducible refine G.trans ?_ (by assumption))))⟩
          · have P2 : parseOut s.data.toList = (0, 0, 0, 3) := by rw [HPO.out, if_pos (Or.inr hx)]
            have HP2 := Lib.hid P2
            have hq : (txt N1 O1 == s.toList) = false := by rw [toList_is]; simpa using hx
            clear P2 hx
            go_wp2
            refine bodyPost_ret (v := .tuple #[.agg #[.int .i64 0, .int .i64 1], .int .i64 0, .int .i64 3]) (by simp [results, Tryd.results42, go_sem, t1, t2]) rfl ⟨rParseIs_of HP2.out rfl rfl rfl rfl, by (repeat' (first | (with_reducible exact G.refl _) | (with_reducible assumption) | (with_reducible refine G.drewN ?_ _) | (with_reducible refine G.drew ?_) | (with_reducible refine G.alloc ?_ _) | (with_reducible refine G.setCell ?_ (by first | (with_reducible exact Nat.le_refl _) | (simp; done) | (simp; omega) | omega) _) | (with_reducible refine G.trans ?_ (by assumption))))⟩
        · have hE1 : (E1 == 0) = false := by simpa using hE
          clear r1 r2 r3 r4 r5 r6 r7 r8 r9
          obtain ⟨r1, r2, r3, r4, r5, r6, r7, r8, r9⟩ := two_cells (G.alloc hG3 (.cells #[.int .i64 N1, .int .i64 (O1 + 1)] 28))
          have P2 : parseOut s.data.toList = (0, 0, 0, 3) := by rw [HPO.out, if_pos (Or.inl hE)]
          have HP2 := Lib.hid P2
          have gw : G w w3 := G.trans (by (repeat' (first | (with_reducible exact G.refl _) | (with_reducible assumption) | (with_reducible refine G.drewN ?_ _) | (with_reducible refine G.drew ?_) | (with_reducible refine G.alloc ?_ _) | (with_reducible refine G.setCell ?_ (by first | (with_reducible exact Nat.le_refl _) | (simp; done) | (simp; omega) | omega) _) | (with_reducible refine G.trans ?_ (by assumption))))) hG3
          clear P2
          go_wp2
          refine bodyPost_ret (v := .tuple #[.agg #[.int .i64 0, .int .i64 1], .int .i64 0, .int .i64 3]) (by simp [results, Tryd.results42, go_sem, r1, r2]) rfl ⟨rParseIs_of HP2.out rfl rfl rfl rfl, by (repeat' (first | (with_reducible exact G.refl _) | (with_reducible assumption) | (with_reducible refine G.drewN ?_ _) | (with_reducible refine G.drew ?_) | (with_reducible refine G.alloc ?_ _) | (with_reducible refine G.setCell ?_ (by first | (with_reducible exact Nat.le_refl _) | (simp; done) | (simp; omega) | omega) _) | (with_reducible refine G.trans ?_ (by assumption))))⟩
      · have hlt : y < s.size := by omega
        have hb : s.data.toList[y]? = some s[y] := by rw [List.getElem?_eq_getElem (by rw [hl]; exact hlt)]; rfl
        by_cases h47 : s[y] = 47
        · obtain ⟨x2, y2, z2, hP2⟩ : ∃ x y2 z2 : Nat, numP s.data.toList (y + 1) = (x, y2, z2) := ⟨_, _, _, rfl⟩
          have q := quot_two (m := (x : Int)) HP.out.1 (by rw [HP.out.2]; rfl) rfl (by rw [hl]; exact hy) (by rw [hb, h47]) hP2
          have d1 := numP_end s.data.toList (y + 1) (by rw [hl]; omega)
          have d2 := numP_small s.data.toList (y + 1)
          rw [hP2, hl] at d1
          rw [hP2] at d2
          rw [hl] at q
          have HP2 := Lib.hid hP2
          have h48 : ((s[y].toNat : Int) == 47) = true := by rw [h47]; rfl
          simp only [] at d1 d2
          clear hP2 hb h47
          go_wp2_with fail
          refine (rnumber_int s _ (y + 1) _ (by omega) (by omega) h2).mono ?_
          rintro e w3 ⟨he, rfl⟩
          unfold NumRIs at he
          have eP := num_same s.data.toList (y + 1) (by rw [hl]; omega)
          rw [HP2.out] at eP
          by_cases hz2 : z2 = 0
          · subst hz2
            rw [show numR s.data.toList (y + 1) = (x2, y2, 0, 0) from eP] at he
            clear eP
            subst he
            by_cases hy2 : y2 < s.size
            · rw [if_pos ⟨rfl, hy2⟩] at q
              have HQ := Lib.hid q
              clear q
              have P : parseOut s.data.toList = (0, 0, y2, 6) := by unfold parseOut; rw [HQ.out] <;> simp
              have HPO := Lib.hid P
              clear P HQ
              go_wp2
              refine bodyPost_ret (v := .tuple #[.agg #[.int .i64 0, .int .i64 1], .int .i64 (y2 : Nat), .int .i64 (6 : Nat)]) (by simp [results, Tryd.results42, go_sem]) rfl ⟨rParseIs_of HPO.out rfl rfl rfl rfl, by (repeat' (first | (with_reducible exact G.refl _) | (with_reducible assumption) | (with_reducible refine G.drewN ?_ _) | (with_reducible refine G.drew ?_) | (with_reducible refine G.alloc ?_ _) | (with_reducible refine G.setCell ?_ (by first | (with_reducible exact Nat.le_refl _) | (simp; done) | (simp; omega) | omega) _) | (with_reducible refine G.trans ?_ (by assumption))))⟩
            · rw [if_neg (by omega)] at q
              have HQ := Lib.hid q
              have hy3 : y2 = s.size := by omega
              subst hy3
              clear q hy2
              obtain ⟨N1, HN1⟩ : ∃ z : Int, Hid (z = oN ((x : Int)) ((x2 : Int))) := ⟨_, rfl⟩
              obtain ⟨O1, HO1⟩ : ∃ z : Int, Hid (z = oD ((x : Int)) ((x2 : Int)) - 1) := ⟨_, rfl⟩
              obtain ⟨E1, HE1⟩ : ∃ z : Int, Hid (z = oE ((x : Int)) ((x2 : Int))) := ⟨_, rfl⟩
              have P : parseOut s.data.toList = if E1 ≠ 0 ∨ txt N1 O1 ≠ s.data.toList then (0, 0, 0, 3) else (N1, O1, 0, 0) := by
                rw [HE1.out, HN1.out, HO1.out]; unfold parseOut; rw [HQ.out]; simp
              have HPO := Lib.hid P
              have hC : Cn N1 O1 := by rw [HN1.out, HO1.out]; exact cn_of _ _
              have hD : Hid (oD ((x : Int)) ((x2 : Int)) = O1 + 1) := by have := HO1.out; unfold Hid; omega
              clear P HQ
              go_wp2_with fail
              refine (rOf_any ((x : Int)) ((x2 : Int)) _ (by omega) (by omega) (by omega) (by omega)).mono ?_
              rintro e w3 ⟨rfl, hG3⟩
              rw [hD.out, ← HN1.out, ← HE1.out]
              obtain ⟨r1, r2, r3, r4, r5, r6, r7, r8, r9⟩ := two_cells hG3
              by_cases hE : E1 = 0
              · subst hE
                go_wp2_with fail
                refine (rText_any _ _ _ hC).mono ?_
                rintro e w4 ⟨rfl, hG4⟩
                have hG5 := hG3.trans (G.trans (by (repeat' (first | (with_reducible exact G.refl _) | (with_reducible assumption) | (with_reducible refine G.drewN ?_ _) | (with_reducible refine G.drew ?_) | (with_reducible refine G.alloc ?_ _) | (with_reducible refine G.setCell ?_ (by first | (with_reducible exact Nat.le_refl _) | (simp; done) | (simp; omega) | omega) _) | (with_reducible refine G.trans ?_ (by assumption))))) hG4)
                obtain ⟨t1, t2, t3, t4, t5, t6, t7, t8, t9⟩ := two_cells hG5
                obtain ⟨u1, u2⟩ := box_later hG4
                have gw : G w w4 := G.trans (by (repeat' (first | (with_reducible exact G.refl _) | (with_reducible assumption) | (with_reducible refine G.drewN ?_ _) | (with_reducible refine G.drew ?_) | (with_reducible refine G.alloc ?_ _) | (with_reducible refine G.setCell ?_ (by first | (with_reducible exact Nat.le_refl _) | (simp; done) | (simp; omega) | omega) _) | (with_reducible refine G.trans ?_ (by assumption))))) hG5
                clear r1 r2 r3 r4 r5 r6 r7 r8 r9
                by_cases hx : txt N1 O1 = s.data.toList
                · have P2 : parseOut s.data.toList = (N1, O1, 0, 0) := by rw [HPO.out, if_neg (by simp [hx])]
                  have HP2 := Lib.hid P2
                  have HX := Lib.hid hx
                  clear P2 hx
                  have hq : (txt N1 O1 == s.toList) = true := by rw [toList_is, HX.out]; simp
                  go_wp2
                  refine bodyPost_ret (v := .tuple #[.agg #[.int .i64 N1, .int .i64 (O1 + 1)], .int .i64 0, .int .i64 0]) (by simp [results, Tryd.results42, go_sem, t1, t2]) rfl ⟨rParseIs_of HP2.out rfl rfl rfl rfl, by (repeat' (first | (with_reducible exact G.refl _) | (with_reducible assumption) | (with_reducible refine G.drewN ?_ _) | (with_reducible refine G.drew ?_) | (with_reducible refine G.alloc ?_ _) | (with_reducible refine G.setCell ?_ (by first | (with_reducible exact Nat.le_refl _) | (simp; done) | (simp; omega) | omega) _) | (with_reducible refine G.trans ?_ (by assumption))))⟩
                · have P2 : parseOut s.data.toList = (0, 0, 0, 3) := by rw [HPO.out, if_pos (Or.inr hx)]
                  have HP2 := Lib.hid P2
                  have hq : (txt N1 O1 == s.toList) = false := by rw [toList_is]; simpa using hx
                  clear P2 hx
                  go_wp2
                  refine bodyPost_ret (v := .tuple #[.agg #[.int .i64 0, .int .i64 1], .int .i64 0, .int .i64 3]) (by simp [results, Tryd.results42, go_sem, t1, t2]) rfl ⟨rParseIs_of HP2.out rfl rfl rfl rfl, by (repeat' (first | (with_reducible exact G.refl _) | (with_reducible assumption) | (with_reducible refine G.drewN ?_ _) | (with_reducible refine G.drew ?_) | (with_reducible refine G.alloc ?_ _) | (with_reducible refine G.setCell ?_ (by first | (with_reducible exact Nat.le_refl _) | (simp; done) | (simp; omega) | omega) _) | (with_reducible refine G.trans ?_ (by assumption))))⟩
              · have hE1 : (E1 == 0) = false := by simpa using hE
                clear r1 r2 r3 r4 r5 r6 r7 r8 r9
                obtain ⟨r1, r2, r3, r4, r5, r6, r7, r8, r9⟩ := two_cells (G.alloc hG3 (.cells #[.int .i64 N1, .int .i64 (O1 + 1)] 28))
                have P2 : parseOut s.data.toList = (0, 0, 0, 3) := by rw [HPO.out, if_pos (Or.inl hE)]
                have HP2 := Lib.hid P2
                have gw : G w w3 := G.trans (by (repeat' (first | (with_reducible exact G.refl _) | (with_reducible assumption) | (with_reducible refine G.drewN ?_ _) | (with_reducible refine G.drew ?_) | (with_reducible refine G.alloc ?_ _) | (with_reducible refine G.setCell ?_ (by first | (with_reducible exact Nat.le_refl _) | (simp; done) | (simp; omega) | omega) _) | (with_reducible refine G.trans ?_ (by assumption))))) hG3
                clear P2
                go_wp2
                refine bodyPost_ret (v := .tuple #[.agg #[.int .i64 0, .int .i64 1], .int .i64 0, .int .i64 3]) (by simp [results, Tryd.results42, go_sem, r1, r2]) rfl ⟨rParseIs_of HP2.out rfl rfl rfl rfl, by (repeat' (first | (with_reducible exact G.refl _) | (with_reducible assumption) | (with_reducible refine G.drewN ?_ _) | (with_reducible refine G.drew ?_) | (with_reducible refine G.alloc ?_ _) | (with_reducible refine G.setCell ?_ (by first | (with_reducible exact Nat.le_refl _) | (simp; done) | (simp; omega) | omega) _) | (with_reducible refine G.trans ?_ (by assumption))))⟩
          · rw [show numR s.data.toList (y + 1) = (0, y + 1, z2, y2) from eP.trans (if_neg hz2)] at he
            clear eP
            subst he
            rw [if_neg (by omega)] at q
            have HQ := Lib.hid q
            have hz3 : ((z2 : Int) == 0) = false := by simp; omega
            clear q
            have P : parseOut s.data.toList = (0, 0, y2, z2) := by unfold parseOut; rw [HQ.out] <;> simp [hz2]
            have HPO := Lib.hid P
            clear P HQ
            go_wp2
            refine bodyPost_ret (v := .tuple #[.agg #[.int .i64 0, .int .i64 1], .int .i64 (y2 : Nat), .int .i64 (z2 : Nat)]) (by simp [results, Tryd.results42, go_sem]) rfl ⟨rParseIs_of HPO.out rfl rfl rfl rfl, by (repeat' (first | (with_reducible exact G.refl _) | (with_reducible assumption) | (with_reducible refine G.drewN ?_ _) | (with_reducible refine G.drew ?_) | (with_reducible refine G.alloc ?_ _) | (with_reducible refine G.setCell ?_ (by first | (with_reducible exact Nat.le_refl _) | (simp; done) | (simp; omega) | omega) _) | (with_reducible refine G.trans ?_ (by assumption))))⟩
        · have q := quot_byte HP.out.1 rfl (by rw [hl]; exact hy) (by rw [hb]; simpa using h47)
          have HQ := Lib.hid q
          have n47 : s[y].toNat ≠ 47 := fun z => h47 (by apply UInt8.toNat_inj.1; rw [z]; rfl)
          have h48 : ((s[y].toNat : Int) == 47) = false := by simp; omega
          clear q hb h47 n47
          have P : parseOut s.data.toList = (0, 0, y, 6) := by unfold parseOut; rw [HQ.out] <;> simp
          have HPO := Lib.hid P
          clear P HQ
          go_wp2
          refine bodyPost_ret (v := .tuple #[.agg #[.int .i64 0, .int .i64 1], .int .i64 (y : Nat), .int .i64 (6 : Nat)]) (by simp [results, Tryd.results42, go_sem]) rfl ⟨rParseIs_of HPO.out rfl rfl rfl rfl, by (repeat' (first | (with_reducible exact G.refl _) | (with_reducible assumption) | (with_reducible refine G.drewN ?_ _) | (with_reducible refine G.drew ?_) | (with_reducible refine G.alloc ?_ _) | (with_reducible refine G.setCell ?_ (by first | (with_reducible exact Nat.le_refl _) | (simp; done) | (simp; omega) | omega) _) | (with_reducible refine G.trans ?_ (by assumption))))⟩
    · rw [show numR s.data.toList 0 = (0, 0, z, y) from eP.trans (if_neg hz)] at he
      clear eP
      subst he
      have hz3 : ((z : Int) == 0) = false := by simp; omega
      have q := quot_one (m := (x : Int)) HP.out.1 (by rw [HP.out.2]; rfl) (Or.inl hz)
      have HQ := Lib.hid q
      clear q
      have P : parseOut s.data.toList = (0, 0, y, z) := by unfold parseOut; rw [HQ.out] <;> simp [hz]
      have HPO := Lib.hid P
      clear P HQ
      go_wp2
      refine bodyPost_ret (v := .tuple #[.agg #[.int .i64 0, .int .i64 1], .int .i64 (y : Nat), .int .i64 (z : Nat)]) (by simp [results, Tryd.results42, go_sem]) rfl ⟨rParseIs_of HPO.out rfl rfl rfl rfl, by (repeat' (first | (with_reducible exact G.refl _) | (with_reducible assumption) | (with_reducible refine G.drewN ?_ _) | (with_reducible refine G.drew ?_) | (with_reducible refine G.alloc ?_ _) | (with_reducible refine G.setCell ?_ (by first | (with_reducible exact Nat.le_refl _) | (simp; done) | (simp; omega) | omega) _) | (with_reducible refine G.trans ?_ (by assumption))))⟩
  · have n45 : s[0] = 45 := (first_yes hn).2
    have k2 : ((s[0].toNat : Int) == 45) = true := by rw [n45]; rfl
    clear n45
    go_enter Tryd.func42, Tryd.ntmps42
    go_wp2_with fail
    refine (rnumber_int s _ 1 _ (by omega) (by omega) h2).mono ?_
    rintro e w2 ⟨he, rfl⟩
    unfold NumRIs at he
    have b1 := numP_end s.data.toList 1 (by rw [hl]; omega)
    have b2 := numP_small s.data.toList 1
    have hf : from0 s.data.toList = 1 := by unfold from0; rw [hn]; rfl
    obtain ⟨x, y, z, hP⟩ : ∃ x y z : Nat, numP s.data.toList 1 = (x, y, z) := ⟨_, _, _, rfl⟩
    have eP := num_same s.data.toList 1 (by rw [hl]; omega)
    rw [hP] at eP b1 b2
    rw [hl] at b1
    obtain ⟨b3, b4⟩ := b1
    have HP : Hid (numP s.data.toList (from0 s.data.toList) = (x, y, z) ∧ neg s.data.toList = true) := ⟨by rw [hf]; exact hP, hn⟩
    simp only [] at b2 b3 b4
    clear hP hf hn
    by_cases hz : z = 0
    · subst hz
      rw [show numR s.data.toList 1 = (x, y, 0, 0) from eP] at he
      clear eP
      subst he
      by_cases hy : y = s.size
      · subst hy
        have q := quot_one (m := -(x : Int)) HP.out.1 (by rw [HP.out.2]; rfl) (Or.inr hl.symm)
        have HQ := Lib.hid q
        clear q
        obtain ⟨N1, HN1⟩ : ∃ z : Int, Hid (z = oN (-(x : Int)) (1)) := ⟨_, rfl⟩
        obtain ⟨O1, HO1⟩ : ∃ z : Int, Hid (z = oD (-(x : Int)) (1) - 1) := ⟨_, rfl⟩
        obtain ⟨E1, HE1⟩ : ∃ z : Int, Hid (z = oE (-(x : Int)) (1)) := ⟨_, rfl⟩
        have P : parseOut s.data.toList = if E1 ≠ 0 ∨ txt N1 O1 ≠ s.data.toList then (0, 0, 0, 3) else (N1, O1, 0, 0) := by
          rw [HE1.out, HN1.out, HO1.out]; unfold parseOut; rw [HQ.out]; simp
        have HPO := Lib.hid P
        have hC : Cn N1 O1 := by rw [HN1.out, HO1.out]; exact cn_of _ _
        have hD : Hid (oD (-(x : Int)) (1) = O1 + 1) := by have := HO1.out; unfold Hid; omega
        clear P HQ
        go_wp2_with fail
        refine (rOf_any (-(x : Int)) (1) _ (by omega) (by omega) (by omega) (by omega)).mono ?_
        rintro e w3 ⟨rfl, hG3⟩
        rw [hD.out, ← HN1.out, ← HE1.out]
        obtain ⟨r1, r2, r3, r4, r5, r6, r7, r8, r9⟩ := two_cells hG3
        by_cases hE : E1 = 0
        · subst hE
          go_wp2_with fail
          refine (rText_any _ _ _ hC).mono ?_
          rintro e w4 ⟨rfl, hG4⟩
          have hG5 := hG3.trans (G.trans (by (repeat' (first | (with_reducible exact G.refl _) | (with_reducible assumption) | (with_reducible refine G.drewN ?_ _) | (with_reducible refine G.drew ?_) | (with_reducible refine G.alloc ?_ _) | (with_reducible refine G.setCell ?_ (by first | (with_reducible exact Nat.le_refl _) | (simp; done) | (simp; omega) | omega) _) | (with_reducible refine G.trans ?_ (by assumption))))) hG4)
          obtain ⟨t1, t2, t3, t4, t5, t6, t7, t8, t9⟩ := two_cells hG5
          obtain ⟨u1, u2⟩ := box_later hG4
          have gw : G w w4 := G.trans (by (repeat' (first | (with_reducible exact G.refl _) | (with_reducible assumption) | (with_reducible refine G.drewN ?_ _) | (with_reducible refine G.drew ?_) | (with_reducible refine G.alloc ?_ _) | (with_reducible refine G.setCell ?_ (by first | (with_reducible exact Nat.le_refl _) | (simp; done) | (simp; omega) | omega) _) | (with_reducible refine G.trans ?_ (by assumption))))) hG5
          clear r1 r2 r3 r4 r5 r6 r7 r8 r9
          by_cases hx : txt N1 O1 = s.data.toList
          · have P2 : parseOut s.data.toList = (N1, O1, 0, 0) := by rw [HPO.out, if_neg (by simp [hx])]
            have HP2 := Lib.hid P2
            have HX := Lib.hid hx
            clear P2 hx
            have hq : (txt N1 O1 == s.toList) = true := by rw [toList_is, HX.out]; simp
            go_wp2
            refine bodyPost_ret (v := .tuple #[.agg #[.int .i64 N1, .int .i64 (O1 + 1)], .int .i64 0, .int .i64 0]) (by simp [results, Tryd.results42, go_sem, t1, t2]) rfl ⟨rParseIs_of HP2.out rfl rfl rfl rfl, by (repeat' (first | (with_reducible exact G.refl _) | (with_reducible assumption) | (with_reducible refine G.drewN ?_ _) | (with_reducible refine G.drew ?_) | (with_reducible refine G.alloc ?_ _) | (with_reducible refine G.setCell ?_ (by first | (with_reducible exact Nat.le_refl _) | (simp; done) | (simp; omega) | omega) _) | (with_reducible refine G.trans ?_ (by assumption))))⟩
          · have P2 : parseOut s.data.toList = (0, 0, 0, 3) := by rw [HPO.out, if_pos (Or.inr hx)]
            have HP2 := Lib.hid P2
            have hq : (txt N1 O1 == s.toList) = false := by rw [toList_is]; simpa using hx
            clear P2 hx
            go_wp2
            refine bodyPost_ret (v := .tuple #[.agg #[.int .i64 0, .int .i64 1], .int .i64 0, .int .i64 3]) (by simp [results, Tryd.results42, go_sem, t1, t2]) rfl ⟨rParseIs_of HP2.out rfl rfl rfl rfl, by (repeat' (first | (with_reducible exact G.refl _) | (with_reducible assumption) | (with_reducible refine G.drewN ?_ _) | (with_reducible refine G.drew ?_) | (with_reducible refine G.alloc ?_ _) | (with_reducible refine G.setCell ?_ (by first | (with_reducible exact Nat.le_refl _) | (simp; done) | (simp; omega) | omega) _) | (with_reducible refine G.trans ?_ (by assumption))))⟩
        · have hE1 : (E1 == 0) = false := by simpa using hE
          clear r1 r2 r3 r4 r5 r6 r7 r8 r9
          obtain ⟨r1, r2, r3, r4, r5, r6, r7, r8, r9⟩ := two_cells (G.alloc hG3 (.cells #[.int .i64 N1, .int .i64 (O1 + 1)] 28))
          have P2 : parseOut s.data.toList = (0, 0, 0, 3) := by rw [HPO.out, if_pos (Or.inl hE)]
          have HP2 := Lib.hid P2
          have gw : G w w3 := G.trans (by (repeat' (first | (with_reducible exact G.refl _) | (with_reducible assumption) | (with_reducible refine G.drewN ?_ _) | (with_reducible refine G.drew ?_) | (with_reducible refine G.alloc ?_ _) | (with_reducible refine G.setCell ?_ (by first | (with_reducible exact Nat.le_refl _) | (simp; done) | (simp; omega) | omega) _) | (with_reducible refine G.trans ?_ (by assumption))))) hG3
          clear P2
          go_wp2
          refine bodyPost_ret (v := .tuple #[.agg #[.int .i64 0, .int .i64 1], .int .i64 0, .int .i64 3]) (by simp [results, Tryd.results42, go_sem, r1, r2]) rfl ⟨rParseIs_of HP2.out rfl rfl rfl rfl, by (repeat' (first | (with_reducible exact G.refl _) | (with_reducible assumption) | (with_reducible refine G.drewN ?_ _) | (with_reducible refine G.drew ?_) | (with_reducible refine G.alloc ?_ _) | (with_reducible refine G.setCell ?_ (by first | (with_reducible exact Nat.le_refl _) | (simp; done) | (simp; omega) | omega) _) | (with_reducible refine G.trans ?_ (by assumption))))⟩
      · have hlt : y < s.size := by omega
        have hb : s.data.toList[y]? = some s[y] := by rw [List.getElem?_eq_getElem (by rw [hl]; exact hlt)]; rfl
        by_cases h47 : s[y] = 47
        · obtain ⟨x2, y2, z2, hP2⟩ : ∃ x y2 z2 : Nat, numP s.data.toList (y + 1) = (x, y2, z2) := ⟨_, _, _, rfl⟩
          have q := quot_two (m := -(x : Int)) HP.out.1 (by rw [HP.out.2]; rfl) rfl (by rw [hl]; exact hy) (by rw [hb, h47]) hP2
          have d1 := numP_end s.data.toList (y + 1) (by rw [hl]; omega)
          have d2 := numP_small s.data.toList (y + 1)
          rw [hP2, hl] at d1
          rw [hP2] at d2
          rw [hl] at q
          have HP2 := Lib.hid hP2
          have h48 : ((s[y].toNat : Int) == 47) = true := by rw [h47]; rfl
          simp only [] at d1 d2
          clear hP2 hb h47
          go_wp2_with fail
          refine (rnumber_int s _ (y + 1) _ (by omega) (by omega) h2).mono ?_
          rintro e w3 ⟨he, rfl⟩
          unfold NumRIs at he
          have eP := num_same s.data.toList (y + 1) (by rw [hl]; omega)
          rw [HP2.out] at eP
          by_cases hz2 : z2 = 0
          · subst hz2
            rw [show numR s.data.toList (y + 1) = (x2, y2, 0, 0) from eP] at he
            clear eP
            subst he
            by_cases hy2 : y2 < s.size
            · rw [if_pos ⟨rfl, hy2⟩] at q
              have HQ := Lib.hid q
              clear q
              have P : parseOut s.data.toList = (0, 0, y2, 6) := by unfold parseOut; rw [HQ.out] <;> simp
              have HPO := Lib.hid P
              clear P HQ
              go_wp2
              refine bodyPost_ret (v := .tuple #[.agg #[.int .i64 0, .int .i64 1], .int .i64 (y2 : Nat), .int .i64 (6 : Nat)]) (by simp [results, Tryd.results42, go_sem]) rfl ⟨rParseIs_of HPO.out rfl rfl rfl rfl, by (repeat' (first | (with_reducible exact G.refl _) | (with_reducible assumption) | (with_reducible refine G.drewN ?_ _) | (with_reducible refine G.drew ?_) | (with_reducible refine G.alloc ?_ _) | (with_reducible refine G.setCell ?_ (by first | (with_reducible exact Nat.le_refl _) | (simp; done) | (simp; omega) | omega) _) | (with_reducible refine G.trans ?_ (by assumption))))⟩
            · rw [if_neg (by omega)] at q
              have HQ := Lib.hid q
              have hy3 : y2 = s.size := by omega
              subst hy3
              clear q hy2
              obtain ⟨N1, HN1⟩ : ∃ z : Int, Hid (z = oN (-(x : Int)) ((x2 : Int))) := ⟨_, rfl⟩
              obtain ⟨O1, HO1⟩ : ∃ z : Int, Hid (z = oD (-(x : Int)) ((x2 : Int)) - 1) := ⟨_, rfl⟩
              obtain ⟨E1, HE1⟩ : ∃ z : Int, Hid (z = oE (-(x : Int)) ((x2 : Int))) := ⟨_, rfl⟩
              have P : parseOut s.data.toList = if E1 ≠ 0 ∨ txt N1 O1 ≠ s.data.toList then (0, 0, 0, 3) else (N1, O1, 0, 0) := by
                rw [HE1.out, HN1.out, HO1.out]; unfold parseOut; rw [HQ.out]; simp
              have HPO := Lib.hid P
              have hC : Cn N1 O1 := by rw [HN1.out, HO1.out]; exact cn_of _ _
              have hD : Hid (oD (-(x : Int)) ((x2 : Int)) = O1 + 1) := by have := HO1.out; unfold Hid; omega
              clear P HQ
              go_wp2_with fail
              refine (rOf_any (-(x : Int)) ((x2 : Int)) _ (by omega) (by omega) (by omega) (by omega)).mono ?_
              rintro e w3 ⟨rfl, hG3⟩
              rw [hD.out, ← HN1.out, ← HE1.out]
              obtain ⟨r1, r2, r3, r4, r5, r6, r7, r8, r9⟩ := two_cells hG3
              by_cases hE : E1 = 0
              · subst hE
                go_wp2_with fail
                refine (rText_any _ _ _ hC).mono ?_
                rintro e w4 ⟨rfl, hG4⟩
                have hG5 := hG3.trans (G.trans (by (repeat' (first | (with_reducible exact G.refl _) | (with_reducible assumption) | (with_reducible refine G.drewN ?_ _) | (with_reducible refine G.drew ?_) | (with_reducible refine G.alloc ?_ _) | (with_reducible refine G.setCell ?_ (by first | (with_reducible exact Nat.le_refl _) | (simp; done) | (simp; omega) | omega) _) | (with_reducible refine G.trans ?_ (by assumption))))) hG4)
                obtain ⟨t1, t2, t3, t4, t5, t6, t7, t8, t9⟩ := two_cells hG5
                obtain ⟨u1, u2⟩ := box_later hG4
                have gw : G w w4 := G.trans (by (repeat' (first | (with_reducible exact G.refl _) | (with_reducible assumption) | (with_reducible refine G.drewN ?_ _) | (with_reducible refine G.drew ?_) | (with_reducible refine G.alloc ?_ _) | (with_reducible refine G.setCell ?_ (by first | (with_reducible exact Nat.le_refl _) | (simp; done) | (simp; omega) | omega) _) | (with_reducible refine G.trans ?_ (by assumption))))) hG5
                clear r1 r2 r3 r4 r5 r6 r7 r8 r9
                by_cases hx : txt N1 O1 = s.data.toList
                · have P2 : parseOut s.data.toList = (N1, O1, 0, 0) := by rw [HPO.out, if_neg (by simp [hx])]
                  have HP2 := Lib.hid P2
                  have HX := Lib.hid hx
                  clear P2 hx
                  have hq : (txt N1 O1 == s.toList) = true := by rw [toList_is, HX.out]; simp
                  go_wp2
                  refine bodyPost_ret (v := .tuple #[.agg #[.int .i64 N1, .int .i64 (O1 + 1)], .int .i64 0, .int .i64 0]) (by simp [results, Tryd.results42, go_sem, t1, t2]) rfl ⟨rParseIs_of HP2.out rfl rfl rfl rfl, by (repeat' (first | (with_reducible exact G.refl _) | (with_reducible assumption) | (with_reducible refine G.drewN ?_ _) | (with_reducible refine G.drew ?_) | (with_reducible refine G.alloc ?_ _) | (with_reducible refine G.setCell ?_ (by first | (with_reducible exact Nat.le_refl _) | (simp; done) | (simp; omega) | omega) _) | (with_reducible refine G.trans ?_ (by assumption))))⟩
                · have P2 : parseOut s.data.toList = (0, 0, 0, 3) := by rw [HPO.out, if_pos (Or.inr hx)]
                  have HP2 := Lib.hid P2
                  have hq : (txt N1 O1 == s.toList) = false := by rw [toList_is]; simpa using hx
                  clear P2 hx
                  go_wp2
                  refine bodyPost_ret (v := .tuple #[.agg #[.int .i64 0, .int .i64 1], .int .i64 0, .int .i64 3]) (by simp [results, Tryd.results42, go_sem, t1, t2]) rfl ⟨rParseIs_of HP2.out rfl rfl rfl rfl, by (repeat' (first | (with_reducible exact G.refl _) | (with_reducible assumption) | (with_reducible refine G.drewN ?_ _) | (with_reducible refine G.drew ?_) | (with_reducible refine G.alloc ?_ _) | (with_reducible refine G.setCell ?_ (by first | (with_reducible exact Nat.le_refl _) | (simp; done) | (simp; omega) | omega) _) | (with_reducible refine G.trans ?_ (by assumption))))⟩
              · have hE1 : (E1 == 0) = false := by simpa using hE
                clear r1 r2 r3 r4 r5 r6 r7 r8 r9
                obtain ⟨r1, r2, r3, r4, r5, r6, r7, r8, r9⟩ := two_cells (G.alloc hG3 (.cells #[.int .i64 N1, .int .i64 (O1 + 1)] 28))
                have P2 : parseOut s.data.toList = (0, 0, 0, 3) := by rw [HPO.out, if_pos (Or.inl hE)]
                have HP2 := Lib.hid P2
                have gw : G w w3 := G.trans (by (repeat' (first | (with_reducible exact G.refl _) | (with_reducible assumption) | (with_reducible refine G.drewN ?_ _) | (with_reducible refine G.drew ?_) | (with_reducible refine G.alloc ?_ _) | (with_reducible refine G.setCell ?_ (by first | (with_reducible exact Nat.le_refl _) | (simp; done) | (simp; omega) | omega) _) | (with_reducible refine G.trans ?_ (by assumption))))) hG3
                clear P2
                go_wp2
                refine bodyPost_ret (v := .tuple #[.agg #[.int .i64 0, .int .i64 1], .int .i64 0, .int .i64 3]) (by simp [results, Tryd.results42, go_sem, r1, r2]) rfl ⟨rParseIs_of HP2.out rfl rfl rfl rfl, by (repeat' (first | (with_reducible exact G.refl _) | (with_reducible assumption) | (with_reducible refine G.drewN ?_ _) | (with_reducible refine G.drew ?_) | (with_reducible refine G.alloc ?_ _) | (with_reducible refine G.setCell ?_ (by first | (with_reducible exact Nat.le_refl _) | (simp; done) | (simp; omega) | omega) _) | (with_reducible refine G.trans ?_ (by assumption))))⟩
          · rw [show numR s.data.toList (y + 1) = (0, y + 1, z2, y2) from eP.trans (if_neg hz2)] at he
            clear eP
            subst he
            rw [if_neg (by omega)] at q
            have HQ := Lib.hid q
            have hz3 : ((z2 : Int) == 0) = false := by simp; omega
            clear q
            have P : parseOut s.data.toList = (0, 0, y2, z2) := by unfold parseOut; rw [HQ.out] <;> simp [hz2]
            have HPO := Lib.hid P
            clear P HQ
            go_wp2
            refine bodyPost_ret (v := .tuple #[.agg #[.int .i64 0, .int .i64 1], .int .i64 (y2 : Nat), .int .i64 (z2 : Nat)]) (by simp [results, Tryd.results42, go_sem]) rfl ⟨rParseIs_of HPO.out rfl rfl rfl rfl, by (repeat' (first | (with_reducible exact G.refl _) | (with_reducible assumption) | (with_reducible refine G.drewN ?_ _) | (with_reducible refine G.drew ?_) | (with_reducible refine G.alloc ?_ _) | (with_reducible refine G.setCell ?_ (by first | (with_reducible exact Nat.le_refl _) | (simp; done) | (simp; omega) | omega) _) | (with_reducible refine G.trans ?_ (by assumption))))⟩
        · have q := quot_byte HP.out.1 rfl (by rw [hl]; exact hy) (by rw [hb]; simpa using h47)
          have HQ := Lib.hid q
          have n47 : s[y].toNat ≠ 47 := fun z => h47 (by apply UInt8.toNat_inj.1; rw [z]; rfl)
          have h48 : ((s[y].toNat : Int) == 47) = false := by simp; omega
          clear q hb h47 n47
          have P : parseOut s.data.toList = (0, 0, y, 6) := by unfold parseOut; rw [HQ.out] <;> simp
          have HPO := Lib.hid P
          clear P HQ
          go_wp2
          refine bodyPost_ret (v := .tuple #[.agg #[.int .i64 0, .int .i64 1], .int .i64 (y : Nat), .int .i64 (6 : Nat)]) (by simp [results, Tryd.results42, go_sem]) rfl ⟨rParseIs_of HPO.out rfl rfl rfl rfl, by (repeat' (first | (with_reducible exact G.refl _) | (with_reducible assumption) | (with_reducible refine G.drewN ?_ _) | (with_reducible refine G.drew ?_) | (with_reducible refine G.alloc ?_ _) | (with_reducible refine G.setCell ?_ (by first | (with_reducible exact Nat.le_refl _) | (simp; done) | (simp; omega) | omega) _) | (with_reducible refine G.trans ?_ (by assumption))))⟩
    · rw [show numR s.data.toList 1 = (0, 1, z, y) from eP.trans (if_neg hz)] at he
      clear eP
      subst he
      have hz3 : ((z : Int) == 0) = false := by simp; omega
      have q := quot_one (m := -(x : Int)) HP.out.1 (by rw [HP.out.2]; rfl) (Or.inl hz)
      have HQ := Lib.hid q
      clear q
      have P : parseOut s.data.toList = (0, 0, y, z) := by unfold parseOut; rw [HQ.out] <;> simp [hz]
      have HPO := Lib.hid P
      clear P HQ
      go_wp2
      refine bodyPost_ret (v := .tuple #[.agg #[.int .i64 0, .int .i64 1], .int .i64 (y : Nat), .int .i64 (z : Nat)]) (by simp [results, Tryd.results42, go_sem]) rfl ⟨rParseIs_of HPO.out rfl rfl rfl rfl, by (repeat' (first | (with_reducible exact G.refl _) | (with_reducible assumption) | (with_reducible refine G.drewN ?_ _) | (with_reducible refine G.drew ?_) | (with_reducible refine G.alloc ?_ _) | (with_reducible refine G.setCell ?_ (by first | (with_reducible exact Nat.le_refl _) | (simp; done) | (simp; omega) | omega) _) | (with_reducible refine G.trans ?_ (by assumption))))⟩
end Go.Proofs.YtkmmmmbnddkcgaaDoor
