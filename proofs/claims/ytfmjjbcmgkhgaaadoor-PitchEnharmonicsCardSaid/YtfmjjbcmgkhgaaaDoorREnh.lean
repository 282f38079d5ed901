import Derived.Test.YtfmjjbcmgkhgaaaDoorAll
import Derived.Test.YtfmjjbcmgkhgaaaDoorTri
/-! The reference's enharmonic pitches. -/
namespace Go.Proofs.YtfmjjbcmgkhgaaaDoor
open Go.RowKit
attribute [local go_sem] World.cell?_alloc_some

theorem mem_all {p : P3} {k : Nat} (h : p ∈ allO k) : OkP p := by
  unfold allO at h
  obtain ⟨i, _, h⟩ := List.mem_flatMap.1 h
  unfold allS at h
  obtain ⟨s, _, h⟩ := List.mem_flatMap.1 h
  unfold allA at h
  have h2 := (List.mem_filter.1 h).2
  exact of_decide_eq_true (p := Ok p.1 p.2.1 p.2.2) h2
def ht3 (p : P3) : Int := ht p.1 p.2.1 p.2.2
def rE (n : Int) (l : List P3) : List P3 := l.filter (fun p => ht3 p == n)
theorem rE_hit {n : Int} {p : P3} (h : (ht3 p == n) = true) (l : List P3) : rE n (l ++ [p]) = rE n l ++ [p] := by simp [rE, h]
theorem rE_miss {n : Int} {p : P3} (h : (ht3 p == n) = false) (l : List P3) : rE n (l ++ [p]) = rE n l := by simp [rE, h]
theorem take_next {l : List P3} {i : Nat} {p : P3} (h : l[i]? = some p) : l.take (i + 1) = l.take i ++ [p] := by
  rw [List.take_add_one, h]; rfl
theorem rE_len (n : Int) (l : List P3) : (rE n l).length ≤ l.length := List.length_filter_le _ _

theorem At.base {w w1 wr : World} {v : Value} {l : List P3} (h : At w1 wr v l) (g : G w w1) : At w wr v l := ⟨own_base h.1 g.size, g.trans h.2⟩
set_option maxRecDepth 100000 in
set_option maxHeartbeats 4000000 in
theorem rEnharmonics_any (n : Int) (w : World) : Calls Tryd.prog 23 #[.int .i64 n] w fun e w' => ∃ v, e = .returned v ∧ At w w' v (rE n (allO 11)) := by
  obtain ⟨i0, hi, hz0, hz1, hz2⟩ := info_parts pInfo
  go_enter Tryd.func23, Tryd.ntmps23
  go_wp2_with fail
  refine (rAll_any _).mono ?_
  rintro e w1 ⟨v1, rfl, hA⟩
  have hlen0 := allO_len 11
  have hok : ∀ p ∈ allO 11, OkP p := fun p hp => mem_all hp
  generalize hall : allO 11 = all at *
  have HALL := Lib.hid hall
  clear hall
  rcases own_cells hA.1 with ⟨rfl, rfl⟩ | ⟨g, cap, rfl, hg, hcap, hcap2, hcells⟩
  · go_wp2_with fail
    go_loopw [3, 5] (fun y x wr => y = .slice none 0 0 ∧ x = .int .i64 0 ∧ wr = w1) (fun _ _ _ => 0)
    case atStart => exact ⟨rfl, rfl, rfl⟩
    case round =>
      obtain ⟨rfl, rfl, rfl⟩ := hrel
      go_wp2_with fail
      go_ret
      exact ⟨_, rfl, by rw [HALL.out]; exact ⟨World.ownsRow_nil _ _ _ _, hA.2⟩⟩
  have HC := Lib.hid hcells
  have HK := Lib.hid hok
  have gw1 := hA.2
  clear hcells hA hok
  go_wp2_with fail
  go_loopg [3, 5] all.length (fun k y x wr => ∃ (v : Value) (i : Nat), v = y ∧ x = .int .i64 i ∧ k = all.length - i ∧ i ≤ all.length ∧ At w1 wr v (rE n (all.take i)))
  case atStart => exact ⟨_, 0, rfl, rfl, by simp, by omega, ⟨World.ownsRow_nil _ _ _ _, G.refl _⟩⟩
  case round =>
    obtain ⟨v, i, rfl, rfl, hgk, i1, hAt⟩ := hrel
    have hW := hAt.2
    have HGK := Lib.hid hgk
    clear hgk
    by_cases hin : i < all.length
    · obtain ⟨p, hp⟩ : ∃ p, all[i]? = some p := ⟨all[i], List.getElem?_eq_getElem hin⟩
      have okp := HK.out p (List.mem_of_getElem? hp)
      obtain ⟨c0, c1, c2⟩ := HC.out i p hp
      have gl := cell_lt c0
      replace c0 := hW.at c0
      replace c1 := hW.at c1
      replace c2 := hW.at c2
      have OKP := Lib.hid okp
      clear okp
      have HP := Lib.hid hp
      clear hp
      have hti := rE_len n (all.take i)
      rw [List.length_take] at hti
      rw [Nat.mul_comm] at c0 c1 c2
      obtain ⟨p1, p2, p3⟩ := p
      dsimp only at c0 c1 c2
      obtain ⟨h, HH⟩ : ∃ z : Int, Hid (z = ht p1 p2 p3) := ⟨_, rfl⟩
      by_cases hh : h = n
      · have hb : (h == n) = true := by rw [hh]; simp
        have HT := Lib.hid (show rE n (all.take (i + 1)) = rE n (all.take i) ++ [(p1, p2, p3)] by rw [take_next HP.out]; exact rE_hit (by unfold ht3; rw [← HH.out]; exact hb) _)
        go_wp2_with (first
          | (go_at_call 18; refine (rNumber_any p1 p2 p3 _ OKP.out.1).mono ?_; rintro e W2 ⟨rfl, hG⟩; rw [← HH.out]; have hA4 := hAt.later (show G _ W2 from G.trans (by (repeat' (first | (with_reducible exact G.refl _) | (with_reducible refine G.drewN ?_ _) | (with_reducible refine G.drew ?_) | (with_reducible refine G.alloc ?_ _)))) hG); have gW2 : G wr W2 := G.trans (by (repeat' (first | (with_reducible exact G.refl _) | (with_reducible refine G.drewN ?_ _) | (with_reducible refine G.drew ?_) | (with_reducible refine G.alloc ?_ _)))) hG; have d0 := gW2.at c0; have d1 := gW2.at c1; have d2 := gW2.at c2)
          | (at_builtin; refine wpList_append_own _ rfl _ _ 34 rfl w1.heap.size 23 i0 (.agg #[.int .i64 0, .int .i64 0, .int .i64 0]) 3 24 Tryd.underlying34 hi hz0 hz1 hz2 rfl (by decide) v (rE n (all.take i)).length (flat (rE n (all.take i))) rfl (own_later hA4.1 (by (repeat' (first | (with_reducible exact G.refl _) | (with_reducible assumption) | (with_reducible refine G.drewN ?_ _) | (with_reducible refine G.drew ?_) | (with_reducible refine G.alloc ?_ _) | (with_reducible refine G.setCell ?_ (by first | (with_reducible exact Nat.le_refl _) | (simp; done) | (simp; omega) | omega) _) | (with_reducible refine G.trans ?_ (by assumption)))))) ⟨W2.heap.size, 0, none⟩ 1 1 (cells3 (p1, p2, p3)) rfl rfl (cell_three_new _ _ _ _ _ _ (by simp)) (by simp [cells3, Value.oneCell']) (by unfold maxLen; omega) (by omega) (by have := hA4.2.size; simp; omega) ?_; intro v' w2 hown' hgrow _))
        have hA5 := At.more hA4 hown' hgrow
        go_roundg (all.length - (i + 1))
        case measure => have := HGK.out; omega
        case rel => exact ⟨v', i + 1, rfl, by go_num, rfl, by omega, by rw [HT.out]; exact hA5⟩
      · have hb : (h == n) = false := beq_false_of_ne hh
        have HT := Lib.hid (show rE n (all.take (i + 1)) = rE n (all.take i) by rw [take_next HP.out]; exact rE_miss (by unfold ht3; rw [← HH.out]; exact hb) _)
        go_wp2_with (first
          | (go_at_call 18; refine (rNumber_any p1 p2 p3 _ OKP.out.1).mono ?_; rintro e W2 ⟨rfl, hG⟩; rw [← HH.out]; have hA4 := hAt.later (show G _ W2 from G.trans (by (repeat' (first | (with_reducible exact G.refl _) | (with_reducible refine G.drewN ?_ _) | (with_reducible refine G.drew ?_) | (with_reducible refine G.alloc ?_ _)))) hG); have gW2 : G wr W2 := G.trans (by (repeat' (first | (with_reducible exact G.refl _) | (with_reducible refine G.drewN ?_ _) | (with_reducible refine G.drew ?_) | (with_reducible refine G.alloc ?_ _)))) hG; have d0 := gW2.at c0; have d1 := gW2.at c1; have d2 := gW2.at c2))
        go_roundg (all.length - (i + 1))
        case measure => have := HGK.out; omega
        case rel => exact ⟨v, i + 1, rfl, by go_num, rfl, by omega, by rw [HT.out]; exact hA4⟩
    · obtain rfl : i = all.length := by omega
      rw [List.take_length] at hAt
      go_wp2_with fail
      go_ret
      exact ⟨v, rfl, by rw [HALL.out]; exact hAt.base gw1⟩
end Go.Proofs.YtfmjjbcmgkhgaaaDoor
