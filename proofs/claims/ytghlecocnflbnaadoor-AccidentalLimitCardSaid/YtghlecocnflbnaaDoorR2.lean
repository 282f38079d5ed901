import Derived.Test.YtghlecocnflbnaaDoorR1
/-! Accidentals: the reference's checks. -/
namespace Go.Proofs.YtghlecocnflbnaaDoor
open Go.RowKit
attribute [local go_sem] World.cell?_alloc_some

set_option maxRecDepth 100000 in
set_option maxHeartbeats 6400000 in
theorem rClash_any (a : Option Addr) (l : List Nt) (n c k : Nat) (x : Nt) (w : World) (hn : l.length = n) (hl : n ≤ 2561) (h1 : NtsAt w a l) (hk : l[k]? = some x) :
    Calls Tryd.prog 22 #[.slice a n c, .int .i64 k] w fun e w' => e = .returned (.bool (cl l x)) ∧ G w w' := by
  subst hn
  obtain ⟨t, s, al, o, hd, sh⟩ := x
  have H1 := Lib.hid h1
  have HK := Lib.hid hk
  have hkl : k < l.length := (List.getElem?_eq_some_iff.1 hk).1
  rcases h1 with hz | ⟨bl, of, rfl, fc⟩
  · rw [hz] at hkl; exact absurd hkl (by simp)
  have FC := Lib.hid fc
  clear fc hk
  have c1 : (0 : Int) ≤ (k : Int) := by omega
  have c2 : (k : Int) < (l.length : Int) := by omega
  obtain ⟨R, hR⟩ : ∃ z : Bool, Hid (z = cl l ⟨t, s, al, o, hd, sh⟩) := ⟨_, rfl⟩
  rw [← hR.out]
  go_enter Tryd.func22, Tryd.ntmps22
  go_wp2_with fail
  go_loopg [5] l.length (fun q x wr => ∃ i : Nat, x = .int .i64 i ∧ q = l.length - i ∧ i ≤ l.length ∧ Hid (∀ (j : Nat) (y : Nt), j < i → l[j]? = some y → dif ⟨t, s, al, o, hd, sh⟩ y = false) ∧ G w wr)
  case atStart => exact ⟨0, rfl, by omega, by omega, Lib.hid (fun j y h => by omega), by (repeat' (first | (with_reducible exact G.refl _) | (with_reducible assumption) | (with_reducible refine G.drewN ?_ _) | (with_reducible refine G.drew ?_) | (with_reducible refine G.alloc ?_ _) | (with_reducible refine G.setCell ?_ (by first | (with_reducible exact Nat.le_refl _) | (simp; done) | (simp; omega) | omega) _) | (with_reducible refine G.trans ?_ (by assumption))))⟩
  case round =>
    obtain ⟨i, rfl, hq, hi, hno, gr⟩ := hrel
    have HQ := Lib.hid hq
    clear hq
    by_cases hin : i < l.length
    · obtain ⟨⟨t', s', al', o', hd', sh'⟩, hp⟩ : ∃ c, l[i]? = some c := ⟨l[i], List.getElem?_eq_getElem hin⟩
      obtain ⟨x0, x1, x2, x3, x4, x5⟩ := (FC.out i _ hp).later gr
      obtain ⟨y0, y1, y2, y3, y4, y5⟩ := (FC.out k _ HK.out).later gr
      dsimp only at x0 x1 x2 x3 x4 x5 y0 y1 y2 y3 y4 y5
      have HP := Lib.hid hp
      have b1 : (0 : Int) ≤ (i : Int) := by omega
      have b2 : (i : Int) < (l.length : Int) := by omega
      have q1 := IntWalk.i64_in ((i : Int) + 1) (by omega)
      by_cases hdif : dif ⟨t, s, al, o, hd, sh⟩ ⟨t', s', al', o', hd', sh'⟩ = true
      · have HR := Lib.hid (show R = true by rw [hR.out]; exact cl_iff.2 ⟨i, _, hp, hdif⟩)
        have hdd := of_decide_eq_true hdif
        dsimp only at hdd
        have k1 : (t' == t) = true := by rw [hdd.1]; simp
        have k2 : (s' == s) = true := by rw [hdd.2.1]; simp
        have k3 : (o' == o) = true := by rw [hdd.2.2.1]; simp
        have k4 : (al' == al) = false := beq_false_of_ne hdd.2.2.2
        have k5 : (al' != al) = true := by simp [bne, k4]
        clear hdd hdif hp
        go_wp2_with fail
        go_big_region
        all_goals
          go_wp2_with fail
          go_ret
          exact ⟨by rw [HR.out]; rfl, by (repeat' (first | (with_reducible exact G.refl _) | (with_reducible assumption) | (with_reducible refine G.drewN ?_ _) | (with_reducible refine G.drew ?_) | (with_reducible refine G.alloc ?_ _) | (with_reducible refine G.setCell ?_ (by first | (with_reducible exact Nat.le_refl _) | (simp; done) | (simp; omega) | omega) _) | (with_reducible refine G.trans ?_ (by assumption))))⟩
      · have hdf : dif ⟨t, s, al, o, hd, sh⟩ ⟨t', s', al', o', hd', sh'⟩ = false := by simpa using hdif
        have hdd := of_decide_eq_false hdf
        dsimp only at hdd
        have HNO := Lib.hid (show ∀ (j : Nat) (y : Nt), j < i + 1 → l[j]? = some y → dif ⟨t, s, al, o, hd, sh⟩ y = false by
          intro j y hj hy
          by_cases e : j = i
          · rw [e, hp] at hy; rw [← Option.some.inj hy]; exact hdf
          · exact hno.out j y (by omega) hy)
        clear hdif hdf hp
        by_cases e0 : t' = t
        · have k1 : (t' == t) = true := by rw [e0]; simp
          by_cases e1 : s' = s
          · have k2 : (s' == s) = true := by rw [e1]; simp
            by_cases e2 : o' = o
            · have k3 : (o' == o) = true := by rw [e2]; simp
              have k4 : (al' == al) = true := by
                have : al' = al := Decidable.byContradiction fun z => hdd ⟨e0, e1, e2, z⟩
                rw [this]; simp
              have k5 : (al' != al) = false := by simp [bne, k4]
              clear hdd e0 e1 e2
              go_wp2_with fail
              go_big_region
              all_goals
                go_wp2_with fail
                go_roundg (l.length - (i + 1))
                case measure => have := HQ.out; omega
                case rel => exact ⟨i + 1, by first | rfl | simp, rfl, by omega, HNO, by (repeat' (first | (with_reducible exact G.refl _) | (with_reducible assumption) | (with_reducible refine G.drewN ?_ _) | (with_reducible refine G.drew ?_) | (with_reducible refine G.alloc ?_ _) | (with_reducible refine G.setCell ?_ (by first | (with_reducible exact Nat.le_refl _) | (simp; done) | (simp; omega) | omega) _) | (with_reducible refine G.trans ?_ (by assumption))))⟩
            · have k3 : (o' == o) = false := beq_false_of_ne e2
              clear hdd e0 e1 e2
              go_wp2_with fail
              go_big_region
              all_goals
                go_wp2_with fail
                go_roundg (l.length - (i + 1))
                case measure => have := HQ.out; omega
                case rel => exact ⟨i + 1, by first | rfl | simp, rfl, by omega, HNO, by (repeat' (first | (with_reducible exact G.refl _) | (with_reducible assumption) | (with_reducible refine G.drewN ?_ _) | (with_reducible refine G.drew ?_) | (with_reducible refine G.alloc ?_ _) | (with_reducible refine G.setCell ?_ (by first | (with_reducible exact Nat.le_refl _) | (simp; done) | (simp; omega) | omega) _) | (with_reducible refine G.trans ?_ (by assumption))))⟩
          · have k2 : (s' == s) = false := beq_false_of_ne e1
            clear hdd e0 e1
            go_wp2_with fail
            go_big_region
            all_goals
              go_wp2_with fail
              go_roundg (l.length - (i + 1))
              case measure => have := HQ.out; omega
              case rel => exact ⟨i + 1, by first | rfl | simp, rfl, by omega, HNO, by (repeat' (first | (with_reducible exact G.refl _) | (with_reducible assumption) | (with_reducible refine G.drewN ?_ _) | (with_reducible refine G.drew ?_) | (with_reducible refine G.alloc ?_ _) | (with_reducible refine G.setCell ?_ (by first | (with_reducible exact Nat.le_refl _) | (simp; done) | (simp; omega) | omega) _) | (with_reducible refine G.trans ?_ (by assumption))))⟩
        · have k1 : (t' == t) = false := beq_false_of_ne e0
          clear hdd e0
          go_wp2_with fail
          go_big_region
          all_goals
            go_wp2_with fail
            go_roundg (l.length - (i + 1))
            case measure => have := HQ.out; omega
            case rel => exact ⟨i + 1, by first | rfl | simp, rfl, by omega, HNO, by (repeat' (first | (with_reducible exact G.refl _) | (with_reducible assumption) | (with_reducible refine G.drewN ?_ _) | (with_reducible refine G.drew ?_) | (with_reducible refine G.alloc ?_ _) | (with_reducible refine G.setCell ?_ (by first | (with_reducible exact Nat.le_refl _) | (simp; done) | (simp; omega) | omega) _) | (with_reducible refine G.trans ?_ (by assumption))))⟩
    · have hii : i = l.length := by omega
      subst hii
      have HR := Lib.hid (show R = false by
        rw [hR.out]
        refine Bool.eq_false_iff.2 fun z => ?_
        obtain ⟨j, b, hj, hd⟩ := cl_iff.1 z
        rw [hno.out j b (List.getElem?_eq_some_iff.1 hj).1 hj] at hd
        cases hd)
      go_wp2_with fail
      go_ret
      exact ⟨by rw [HR.out]; rfl, by (repeat' (first | (with_reducible exact G.refl _) | (with_reducible assumption) | (with_reducible refine G.drewN ?_ _) | (with_reducible refine G.drew ?_) | (with_reducible refine G.alloc ?_ _) | (with_reducible refine G.setCell ?_ (by first | (with_reducible exact Nat.le_refl _) | (simp; done) | (simp; omega) | omega) _) | (with_reducible refine G.trans ?_ (by assumption))))⟩
end Go.Proofs.YtghlecocnflbnaaDoor
