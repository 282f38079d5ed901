import Derived.Test.YtfmjjbcmgkhgaaaDoorRPrs
import Derived.Deep.RegionHeld3
/-! The reference's Parse, walked. -/
namespace Go.Proofs.YtfmjjbcmgkhgaaaDoor
open Go.RowKit Go.Shelf
attribute [local go_sem] World.cell?_alloc_some

theorem ltn_run (k : Int) (h0 : 0 ≤ k) (h1 : k ≤ 6) (w : World) :
    (Instr.index 9 (.string ⟨#[67, 68, 69, 70, 71, 65, 66]⟩) (.int .i64 k)).run Tryd.prog w = .ok (.int .u8 (ltn k)) w := by
  rcases steps7 h0 h1 with rfl | rfl | rfl | rfl | rfl | rfl | rfl <;> simp [Instr.index, run_underlying Tryd.underlying9, asIntOf, go_sem, ltn] <;> rfl

theorem parseV_def (a b c d e : Int) : parseV ((a, b, c), d, e) = .tuple #[.agg #[.int .i64 a, .int .i64 b, .int .i64 c], .int .i64 d, .int .i64 e] := rfl

set_option maxHeartbeats 1600000 in
theorem rParse_nil (w : World) : Calls Tryd.prog 33 #[.string ⟨#[]⟩] w fun e w' => e = .returned (parseV (parseF [])) ∧ G w w' := by
  go_enter Tryd.func33, Tryd.ntmps33
  go_wp2_with fail
  refine bodyPost_ret (v := .tuple #[.agg #[.int .i64 0, .int .i64 0, .int .i64 0], .int .i64 0, .int .i64 4]) (by simp [results, Tryd.results33, go_sem]) rfl ⟨rfl, ?_⟩
  (repeat' (first | (with_reducible exact G.refl _) | (with_reducible assumption) | (with_reducible refine G.drewN ?_ _) | (with_reducible refine G.drew ?_) | (with_reducible refine G.alloc ?_ _) | (with_reducible refine G.setCell ?_ (by first | (with_reducible exact Nat.le_refl _) | (simp; done) | (simp; omega) | omega) _) | (with_reducible refine G.trans ?_ (by assumption))))

set_option maxRecDepth 100000 in
set_option maxHeartbeats 4000000 in
theorem rParse_cons (s : ByteArray) (c : UInt8) (r : List UInt8) (w : World) (hs : s.size ≤ 100) (hl : s.data.toList = c :: r) :
    Calls Tryd.prog 33 #[.string s] w fun e w' => e = .returned (parseV (parseF (c :: r))) ∧ G w w' := by
  have hsz : s.size = r.length + 1 := by
    have : s.data.toList.length = s.size := by simp
    rw [hl] at this; simpa using this.symm
  obtain ⟨n, HN⟩ : ∃ z : Int, Hid (z = (c.toNat : Int)) := ⟨_, rfl⟩
  have hix : ∀ wz, (Instr.index 9 (.string s) (.int .i64 0)).run Tryd.prog wz = .ok (.int .u8 n) wz := by
    intro wz
    have g : s[0]? = some c := by
      rw [ByteArray.getElem?_lt' s 0 (by omega)]
      have k := drop_at s 0 (by omega)
      rw [List.drop_zero, hl] at k
      rw [(List.cons.inj k).1]
    rw [HN.out]
    simp [Instr.index, run_underlying Tryd.underlying9, asIntOf, go_sem, g]
  have hnil : (s.toList == []) = false := by rw [toList_data, hl]; rfl
  have hcmp : ∀ l : List UInt8, (l == s.toList) = (l == c :: r) := by
    intro l; rw [toList_data, hl]
  obtain ⟨R, hR⟩ : ∃ R, Hid (R = parseV (parseF (c :: r))) := ⟨_, rfl⟩
  rw [← hR.out]
  have HX := Lib.hid (stp_ix c)
  rw [← HN.out] at HX
  clear hsz hl
  go_enter Tryd.func33, Tryd.ntmps33
  go_wp2_with fail
  go_loopg [5, 6] 7 (fun g y x wr => ∃ k : Int, x = .int .i64 k ∧ y = .int .i64 (stp n k) ∧ g = (7 - k).toNat ∧ 0 ≤ k ∧ k ≤ 7 ∧ G (w.alloc (.cells #[.int .i64 0, .int .i64 0, .int .i64 0] 23)) wr)
  case atStart => exact ⟨0, rfl, by simp [stp], by simp, by omega, by omega, by (repeat' (first | (with_reducible exact G.refl _) | (with_reducible refine G.drewN ?_ _) | (with_reducible refine G.drew ?_) | (with_reducible refine G.alloc ?_ _)))⟩
  case round =>
    obtain ⟨k, rfl, rfl, hg, k0, k1, hG1⟩ := hrel
    have HGK := Lib.hid hg
    clear hg
    by_cases h7 : k = 7
    · subst h7
      obtain ⟨x, hx⟩ : ∃ x : Int, stp n 7 = x := ⟨_, rfl⟩
      rw [hx]
      rw [hx] at HX
      have ib := ix_bd LET c
      rw [HX.out] at ib
      clear hx hix HGK k0 k1
      obtain ⟨⟨z0, z1, z2⟩, f0, f1, f2⟩ := trif_later hG1
      by_cases hx0 : x < 0
      · have HR := Lib.hid (show R = parseV ((0, 0, 0), 0, 6) by rw [hR.out]; rw [parseF_cons, HX.out, if_pos hx0])
        obtain ⟨k0, k1, k2⟩ := set3 (u := .int .i64 0) (v := .int .i64 0) (t := .int .i64 0) z0 z1 z2
        go_wp2_with fail
        refine bodyPost_ret (v := .tuple #[.agg #[.int .i64 0, .int .i64 0, .int .i64 0], .int .i64 0, .int .i64 6]) (by simp [results, Tryd.results33, go_sem, k0, k1, k2]) rfl ⟨by rw [HR.out]; rfl, ?_⟩
        (repeat' (first | (with_reducible exact G.refl _) | (with_reducible assumption) | (with_reducible refine G.drewN ?_ _) | (with_reducible refine G.drew ?_) | (with_reducible refine G.alloc ?_ _) | (with_reducible refine G.setCell ?_ (by first | (with_reducible exact Nat.le_refl _) | (simp; done) | (simp; omega) | omega) _) | (with_reducible refine G.trans ?_ (by assumption))))
      · have x0 : 0 ≤ x := by omega
        have x1 : x ≤ 6 := by simp at ib; omega
        have HP := Lib.hid (parseF_none (c := c) (r := r))
        rw [HX.out] at HP
        have HB := Lib.hid hG1
        clear hG1 z0 z1 z2 f0 f1 f2 ib
        go_wp2_with fail
        go_loopg [7] 5 (fun g y wr => ∃ a : Int, y = .int .i64 a ∧ g = (3 - a).toNat ∧ -2 ≤ a ∧ a ≤ 3 ∧ Hid (∀ a' o', -2 ≤ a' → a' < a → -1 ≤ o' → o' ≤ 9 → nm x a' o' ≠ c :: r) ∧ G (w.alloc (.cells #[.int .i64 0, .int .i64 0, .int .i64 0] 23)) wr)
        case atStart => exact ⟨-2, rfl, rfl, by omega, by omega, Lib.hid (fun a' o' p q => by omega), HB.out⟩
        case round =>
          obtain ⟨a, rfl, hg, a0, a1, hna, hG2⟩ := hrel
          have HGA := Lib.hid hg
          clear hg
          by_cases h3 : a = 3
          · subst h3
            have HR := Lib.hid (show R = parseV ((0, 0, 0), 1, 3) by
              rw [hR.out, HP.out x0 (fun a o p q u v => hna.out a o p (by omega) u v)])
            obtain ⟨⟨z0, z1, z2⟩, f0, f1, f2⟩ := trif_later hG2
            obtain ⟨k0, k1, k2⟩ := set3 (u := .int .i64 0) (v := .int .i64 0) (t := .int .i64 0) z0 z1 z2
            go_wp2_with fail
            refine bodyPost_ret (v := .tuple #[.agg #[.int .i64 0, .int .i64 0, .int .i64 0], .int .i64 1, .int .i64 3]) (by simp [results, Tryd.results33, go_sem, k0, k1, k2]) rfl ⟨by rw [HR.out]; rfl, ?_⟩
            (repeat' (first | (with_reducible exact G.refl _) | (with_reducible assumption) | (with_reducible refine G.drewN ?_ _) | (with_reducible refine G.drew ?_) | (with_reducible refine G.alloc ?_ _) | (with_reducible refine G.setCell ?_ (by first | (with_reducible exact Nat.le_refl _) | (simp; done) | (simp; omega) | omega) _) | (with_reducible refine G.trans ?_ (by assumption))))
          · have a2 : a ≤ 2 := by omega
            have qa := IntWalk.i64_in (a + 1) (by omega)
            have HB2 := Lib.hid hG2
            clear hG2
            go_wp2_with fail
            go_loopg [8] 11 (fun g y wr => ∃ o : Int, y = .int .i64 o ∧ g = (10 - o).toNat ∧ -1 ≤ o ∧ o ≤ 10 ∧ Hid (∀ o', -1 ≤ o' → o' < o → nm x a o' ≠ c :: r) ∧ G (w.alloc (.cells #[.int .i64 0, .int .i64 0, .int .i64 0] 23)) wr)
            case atStart => exact ⟨-1, rfl, rfl, by omega, by omega, Lib.hid (fun o' p q => by omega), HB2.out⟩
            case round =>
              obtain ⟨o, rfl, hg, o0, o1, hno, hG3⟩ := hrel
              have HGO := Lib.hid hg
              clear hg
              by_cases h10 : o = 10
              · subst h10
                have HNA := Lib.hid (show ∀ a' o', -2 ≤ a' → a' < a + 1 → -1 ≤ o' → o' ≤ 9 → nm x a' o' ≠ c :: r by
                  intro a' o' p q u v
                  by_cases e : a' = a
                  · rw [e]; exact hno.out o' u (by omega)
                  · exact hna.out a' o' p (by omega) u v)
                clear HGO
                go_wp2_with fail
                go_roundg ((3 - (a + 1)).toNat)
                case measure => have := HGA.out; omega
                case rel => exact ⟨a + 1, rfl, rfl, by omega, by omega, HNA, hG3⟩
              · have o2 : o ≤ 9 := by omega
                have qo := IntWalk.i64_in (o + 1) (by omega)
                obtain ⟨⟨z0, z1, z2⟩, f0, f1, f2⟩ := trif_later hG3
                clear z0 z1 z2 f0 f1 f2
                go_wp2_with fail
                refine (rName_any x a o _ ⟨⟨x0, x1⟩, ⟨a0, a2⟩, o0, o2⟩).mono ?_
                rintro e w1 ⟨rfl, hG4⟩
                obtain ⟨y0, y1, y2⟩ := tri_later hG4
                have hc := hcmp (nm x a o)
                clear hcmp
                by_cases hm : nm x a o = c :: r
                · rw [beq_iff_eq.2 hm] at hc
                  have HF := Lib.hid (show parseF (c :: r) = ((ey x a o x, ey x a o a, ey x a o o), 0, er x a o) by rw [← hm]; exact parseF_at x0 x1 a0 a2 o0 o2)
                  clear hm
                  go_wp2_with fail
                  refine (rExists_any x a o _).mono ?_
                  rintro e w2 ⟨rfl, hG5⟩
                  have hG6 : G (w.alloc (.cells #[.int .i64 0, .int .i64 0, .int .i64 0] 23)) w2 := by (repeat' (first | (with_reducible exact G.refl _) | (with_reducible assumption) | (with_reducible refine G.drewN ?_ _) | (with_reducible refine G.drew ?_) | (with_reducible refine G.alloc ?_ _) | (with_reducible refine G.setCell ?_ (by first | (with_reducible exact Nat.le_refl _) | (simp; done) | (simp; omega) | omega) _) | (with_reducible refine G.trans ?_ (by assumption))))
                  have hG7 := hG4.trans hG5
                  clear y0 y1 y2
                  obtain ⟨y0, y1, y2⟩ := tri_later hG7
                  obtain ⟨⟨z0, z1, z2⟩, f0, f1, f2⟩ := trif_later hG6
                  by_cases hok : Ok x a o
                  · have HR := Lib.hid (show R = parseV ((x, a, o), 0, 0) by rw [hR.out, HF.out, ey_ok hok, ey_ok hok, ey_ok hok, er_ok hok])
                    rw [decide_eq_true hok]
                    obtain ⟨k0, k1, k2⟩ := set3 (u := .int .i64 x) (v := .int .i64 a) (t := .int .i64 o) z0 z1 z2
                    clear hok
                    go_wp2_with fail
                    refine bodyPost_ret (v := .tuple #[.agg #[.int .i64 x, .int .i64 a, .int .i64 o], .int .i64 0, .int .i64 0]) (by simp [results, Tryd.results33, go_sem, k0, k1, k2]) rfl ⟨by rw [HR.out]; rfl, ?_⟩
                    (repeat' (first | (with_reducible exact G.refl _) | (with_reducible assumption) | (with_reducible refine G.drewN ?_ _) | (with_reducible refine G.drew ?_) | (with_reducible refine G.alloc ?_ _) | (with_reducible refine G.setCell ?_ (by first | (with_reducible exact Nat.le_refl _) | (simp; done) | (simp; omega) | omega) _) | (with_reducible refine G.trans ?_ (by assumption))))
                  · have HR := Lib.hid (show R = parseV ((0, 0, 0), 0, 18) by rw [hR.out, HF.out, ey_bad hok, ey_bad hok, ey_bad hok, er_bad hok])
                    rw [decide_eq_false hok]
                    obtain ⟨k0, k1, k2⟩ := set3 (u := .int .i64 0) (v := .int .i64 0) (t := .int .i64 0) z0 z1 z2
                    clear hok
                    go_wp2_with fail
                    refine bodyPost_ret (v := .tuple #[.agg #[.int .i64 0, .int .i64 0, .int .i64 0], .int .i64 0, .int .i64 18]) (by simp [results, Tryd.results33, go_sem, k0, k1, k2]) rfl ⟨by rw [HR.out]; rfl, ?_⟩
                    (repeat' (first | (with_reducible exact G.refl _) | (with_reducible assumption) | (with_reducible refine G.drewN ?_ _) | (with_reducible refine G.drew ?_) | (with_reducible refine G.alloc ?_ _) | (with_reducible refine G.setCell ?_ (by first | (with_reducible exact Nat.le_refl _) | (simp; done) | (simp; omega) | omega) _) | (with_reducible refine G.trans ?_ (by assumption))))
                · rw [beq_false_of_ne hm] at hc
                  have HNO := Lib.hid (show ∀ o', -1 ≤ o' → o' < o + 1 → nm x a o' ≠ c :: r by
                    intro o' p q
                    by_cases e : o' = o
                    · rw [e]; exact hm
                    · exact hno.out o' p (by omega))
                  clear hm
                  go_wp2_with fail
                  go_roundg ((10 - (o + 1)).toNat)
                  case measure => have := HGO.out; omega
                  case rel => exact ⟨o + 1, rfl, rfl, by omega, by omega, HNO, by (repeat' (first | (with_reducible exact G.refl _) | (with_reducible assumption) | (with_reducible refine G.drewN ?_ _) | (with_reducible refine G.drew ?_) | (with_reducible refine G.alloc ?_ _) | (with_reducible refine G.setCell ?_ (by first | (with_reducible exact Nat.le_refl _) | (simp; done) | (simp; omega) | omega) _) | (with_reducible refine G.trans ?_ (by assumption))))⟩
    · have k6 : k ≤ 6 := by omega
      have hk := fun wz => ltn_run k k0 k6 wz
      have q := IntWalk.i64_in (k + 1) (by omega)
      by_cases hm : n = ltn k
      · have hb : (n == ltn k) = true := beq_iff_eq.2 hm
        have HS := Lib.hid (show stp n (k + 1) = k by rw [stp_next k0 k6, if_pos hm])
        clear hm
        go_wp2_with fail
        go_region_held3 (fun _ => True) (trivial) (fail)
        all_goals
          go_wp2_with fail
          go_roundg ((7 - (k + 1)).toNat)
          case measure => have := HGK.out; omega
          case rel => exact ⟨k + 1, rfl, by rw [HS.out], rfl, by omega, by omega, by (repeat' (first | (with_reducible exact G.refl _) | (with_reducible assumption) | (with_reducible refine G.drewN ?_ _) | (with_reducible refine G.drew ?_) | (with_reducible refine G.alloc ?_ _) | (with_reducible refine G.setCell ?_ (by first | (with_reducible exact Nat.le_refl _) | (simp; done) | (simp; omega) | omega) _) | (with_reducible refine G.trans ?_ (by assumption))))⟩
      · have hb : (n == ltn k) = false := beq_false_of_ne hm
        have HS := Lib.hid (show stp n (k + 1) = stp n k by rw [stp_next k0 k6, if_neg hm])
        clear hm
        go_wp2_with fail
        go_region_held3 (fun _ => True) (trivial) (fail)
        all_goals
          go_wp2_with fail
          go_roundg ((7 - (k + 1)).toNat)
          case measure => have := HGK.out; omega
          case rel => exact ⟨k + 1, rfl, by rw [HS.out], rfl, by omega, by omega, by (repeat' (first | (with_reducible exact G.refl _) | (with_reducible assumption) | (with_reducible refine G.drewN ?_ _) | (with_reducible refine G.drew ?_) | (with_reducible refine G.alloc ?_ _) | (with_reducible refine G.setCell ?_ (by first | (with_reducible exact Nat.le_refl _) | (simp; done) | (simp; omega) | omega) _) | (with_reducible refine G.trans ?_ (by assumption))))⟩

theorem rParse_any (s : ByteArray) (w : World) (hs : s.size ≤ 100) :
    Calls Tryd.prog 33 #[.string s] w fun e w' => e = .returned (parseV (parseF s.data.toList)) ∧ G w w' := by
  cases h : s.data.toList with
  | nil =>
    have e : s = ⟨#[]⟩ := by apply ByteArray.ext; apply Array.toList_inj.1; rw [h]
    rw [e]; exact rParse_nil w
  | cons c r => exact rParse_cons s c r w hs h
end Go.Proofs.YtfmjjbcmgkhgaaaDoor
