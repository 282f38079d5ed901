import Derived.Test.YtnakfeamimeioaaDoorC7
/-! The reference's Signature. -/
namespace Go.Proofs.YtnakfeamimeioaaDoor
open Go.RowKit
attribute [local go_sem] World.cell?_alloc_some

def mp (m low : Int) (l : List Int) : List Int := l.map (fun st => plc m st low)
def lowC (c f : Int) : Int := if f < 0 then flt c else shp c
theorem mp_sg (c f : Int) : mp (mid c) (lowC c f) (stL f) = sgL c f := by
  unfold mp stL sgL lowC
  by_cases h : f < 0
  · have e : f.toNat = 0 := by omega
    rw [if_pos h, e]
    simp [tU, tD, sU, sD]
  · have e : (-f).toNat = 0 := by omega
    rw [if_neg h, e]
    simp [tU, tD, sU, sD]
theorem plc_bd {m st low : Int} : 0 ≤ plc m st low - low ∧ plc m st low - low ≤ 6 := by unfold plc; omega
theorem plc_hit {m st low z : Int} (h0 : low ≤ z) (h1 : z < low + 7) (hs : 0 ≤ st ∧ st ≤ 6) : ((z + m) % 7 = st) ↔ z = plc m st low := by unfold plc; omega
theorem mp_len (m low : Int) (l : List Int) : (mp m low l).length = l.length := by simp [mp]
theorem take_nextI {l : List Int} {i : Nat} {p : Int} (h : l[i]? = some p) : l.take (i + 1) = l.take i ++ [p] := by
  rw [List.take_add_one, h]; rfl

set_option maxRecDepth 100000 in
set_option maxHeartbeats 6400000 in
theorem rSignature_any (c f : Int) (w : World) (hc : Cf c) (hf : Sg f) : Calls Tryd.prog 25 #[.int .i64 c, .int .i64 f] w fun e w' => ∃ v, e = .returned v ∧ At w w' v (sgL c f) := by
  obtain ⟨i0, hi, hz0, hz1, hz2⟩ := info_parts' iInfo
  have HC := Lib.hid hc
  have HF := Lib.hid hf
  have mb := mid_bd c
  have pb := shp_bd c
  have qb := flt_bd c
  have HFin := Lib.hid (mp_sg c f)
  obtain ⟨m, hm⟩ : ∃ z : Int, Hid (z = mid c) := ⟨_, rfl⟩
  obtain ⟨p, hp⟩ : ∃ z : Int, Hid (z = shp c) := ⟨_, rfl⟩
  obtain ⟨q, hq⟩ : ∃ z : Int, Hid (z = flt c) := ⟨_, rfl⟩
  obtain ⟨low, hlow⟩ : ∃ z : Int, Hid (z = lowC c f) := ⟨_, rfl⟩
  have HLB := Lib.hid (show -5 ≤ low ∧ low ≤ -1 by rw [hlow.out]; unfold lowC; split <;> omega)
  rw [← hm.out] at mb
  rw [← hp.out] at pb
  rw [← hq.out] at qb
  obtain ⟨c0, c1⟩ := hc
  obtain ⟨l, hl⟩ : ∃ z : List Int, Hid (z = stL f) := ⟨_, rfl⟩
  have HLL := Lib.hid (show l.length ≤ 100 by rw [hl.out]; exact stL_len hf)
  have HLX := Lib.hid (show ∀ x ∈ l, 0 ≤ x ∧ x ≤ 6 by rw [hl.out]; exact fun x hx => stL_bd hx)
  have q4 := IntWalk.i64_in (c - 1) (by omega)
  have b1 : 0 ≤ c - 1 := by omega
  have b2 : c - 1 < 9 := by omega
  clear hf
  go_enter Tryd.func25, Tryd.ntmps25
  go_wp2_with fail
  refine (rClefs_any _).mono ?_
  rintro e w1 ⟨rfl, hR, hG1⟩
  obtain ⟨x0, x1, x2, x3, x4, x5, x6⟩ := hR c HC.out
  rw [← hm.out] at x4
  rw [← hp.out] at x5
  rw [← hq.out] at x6
  have gWB : G w (w1.alloc (.cells #[.string (nm c), .int .u8 (lt c), .int .i64 (li c), .int .i64 (oc c), .int .i64 m, .int .i64 p, .int .i64 q] 55)) := hG1.alloc _
  obtain ⟨z0, z1, z2, z3, z4, z5, z6⟩ := sev_later (G.refl (w1.alloc (.cells #[.string (nm c), .int .u8 (lt c), .int .i64 (li c), .int .i64 (oc c), .int .i64 m, .int .i64 p, .int .i64 q] 55)))
  clear hR
  have hqp : (f < 0 ∧ low = q) ∨ (¬ f < 0 ∧ low = p) := by
    rw [hlow.out, hq.out, hp.out]
    unfold lowC
    by_cases h : f < 0
    · exact .inl ⟨h, if_pos h⟩
    · exact .inr ⟨h, if_neg h⟩
  rcases hqp with ⟨hn, rfl⟩ | ⟨hn, rfl⟩
  all_goals
    go_wp2_with fail
    generalize w1.alloc (.cells #[.string (nm c), .int .u8 (lt c), .int .i64 (li c), .int .i64 (oc c), .int .i64 m, .int .i64 _, .int .i64 _] 55) = WB at *
    refine (rSteps_any f _ HF.out).mono ?_
    rintro e w2 ⟨v1, rfl, hA1⟩
    rw [← hl.out] at hA1
    have gA1 := hA1.2
    rcases hA1.cells with ⟨rfl, e0⟩ | ⟨gb, cap, rfl, hgb, hcap, hcap2, hcells⟩
    · have HE := Lib.hid (show sgL c f = [] by rw [← HFin.out, ← hl.out, e0]; rfl)
      clear hA1
      go_wp2_with fail
      go_loopw [8, 9] (fun y x wr => y = .slice none 0 0 ∧ x = .int .i64 0 ∧ wr = w2) (fun _ _ _ => 0)
      case atStart => exact ⟨rfl, rfl, rfl⟩
      case round =>
        obtain ⟨rfl, rfl, rfl⟩ := hrel
        go_wp2_with fail
        go_ret
        exact ⟨_, rfl, by rw [HE.out]; exact ⟨World.ownsRow_nil _ _ _ _, gWB.trans gA1⟩⟩
    · have HCE := Lib.hid hcells
      have HFin2 := Lib.hid (show mp m low l = sgL c f by rw [hm.out, hlow.out, hl.out]; exact HFin.out)
      have y4 := gA1.at z4
      have gW2 : G w w2 := gWB.trans gA1
      obtain ⟨lb0, lb1⟩ := HLB.out
      clear hA1 hcells z0 z1 z2 z3 z4 z5 z6 x0 x1 x2 x3 x4 x5 x6
      go_wp2_with fail
      go_loopg [8, 9] l.length (fun k y x wr => ∃ (v : Value) (i : Nat), v = y ∧ x = .int .i64 i ∧ k = l.length - i ∧ i ≤ l.length ∧ At w2 wr v (mp m low (l.take i)))
      case atStart => exact ⟨_, 0, rfl, rfl, by omega, by omega, At.nil w2⟩
      case round =>
        obtain ⟨v, i, rfl, rfl, hgk, i1, hA⟩ := hrel
        have HGK := Lib.hid hgk
        have hlb := HLL.out
        clear hgk
        by_cases hin : i < l.length
        · obtain ⟨st, hst⟩ : ∃ p, l[i]? = some p := ⟨l[i], List.getElem?_eq_getElem hin⟩
          have c9 := HCE.out i st hst
          have HST := Lib.hid (HLX.out st (List.mem_of_getElem? hst))
          have HTN := Lib.hid (show mp m low (l.take (i + 1)) = mp m low (l.take i) ++ [plc m st low] by rw [take_nextI hst]; simp [mp])
          have hll := mp_len m low (l.take i)
          rw [List.length_take] at hll
          obtain ⟨X, hX⟩ : ∃ z : Int, Hid (z = plc m st low) := ⟨_, rfl⟩
          have HXB := Lib.hid (show low ≤ X ∧ X < low + 7 by rw [hX.out]; have := plc_bd (m := m) (st := st) (low := low); omega)
          generalize hls : mp m low (l.take i) = ls at *
          clear hst
          go_wp2_with fail
          go_loopg [8, 10] 7 (fun k y x wr => ∃ (v : Value) (z : Int), v = y ∧ x = .int .i64 z ∧ k = (low + 7 - z).toNat ∧ low ≤ z ∧ z ≤ low + 7 ∧ At w2 wr v (ls ++ if X < z then [X] else []))
          case atStart => exact ⟨_, low, rfl, rfl, by omega, by omega, by omega, by rw [if_neg (by have := HXB.out; omega), List.append_nil]; exact hA⟩
          case round =>
            clear hA
            obtain ⟨v, z, rfl, rfl, hgk2, z0, z1, hA⟩ := hrel
            have HGK2 := Lib.hid hgk2
            clear hgk2
            have y4r := hA.2.at y4
            have c9r := hA.2.at c9
            have hsz := hA.2.size
            by_cases hz : z < low + 7
            · by_cases he : z = X
              · have hb : ((z + m) % 7 == st) = true := by
                  have := (plc_hit (m := m) (st := st) (low := low) z0 hz HST.out).2 (he.trans hX.out)
                  rw [this]; simp
                have hA' : At w2 wr v ls := by rw [if_neg (by omega), List.append_nil] at hA; exact hA
                have HA := Lib.hid hA'
                have HU := Lib.hid (show (ls ++ if X < z + 1 then [X] else []) = ls ++ [z] by rw [if_pos (by omega), he])
                clear hA hA' he
                go_wp2_with fail
                go_big_region
                all_goals
                  go_wp2_with (at_builtin; refine wpList_append_own _ rfl _ _ 41 rfl w2.heap.size 3 i0 (.int .i64 0) 1 8 Tryd.underlying41 hi hz0 hz1 hz2 rfl (by decide) v ls.length (ints ls) rfl (own_later HA.out.1 (by (repeat' (first | (with_reducible exact G.refl _) | (with_reducible assumption) | (with_reducible refine G.drewN ?_ _) | (with_reducible refine G.drew ?_) | (with_reducible refine G.alloc ?_ _) | (with_reducible refine G.setCell ?_ (by first | (with_reducible exact Nat.le_refl _) | (simp; done) | (simp; omega) | omega) _) | (with_reducible refine G.trans ?_ (by assumption)))))) ⟨wr.heap.size, 0, none⟩ 1 1 [.int .i64 z] rfl rfl (cell_one_new _ _ _ _ (by simp)) (by simp [Value.oneCell']) (by unfold maxLen; omega) (by omega) (by simp; omega) ?_; intro v' w9 hown' hgrow _)
                  have hA5 := At.more (HA.out.later (show G wr wr.drew by (repeat' (first | (with_reducible exact G.refl _) | (with_reducible refine G.drewN ?_ _) | (with_reducible refine G.drew ?_) | (with_reducible refine G.alloc ?_ _))))) hown' (show (wr.drew.alloc (.cells #[.int .i64 z] 3)).grownBy w9 v.ownBlock from hgrow)
                  go_roundg ((low + 7 - (z + 1)).toNat)
                  case measure => have := HGK2.out; omega
                  case rel => exact ⟨v', z + 1, rfl, rfl, rfl, by omega, by omega, by rw [HU.out]; exact hA5⟩
              · have hb : ((z + m) % 7 == st) = false := beq_false_of_ne (fun e => he (((plc_hit (m := m) (st := st) (low := low) z0 hz HST.out).1 e).trans hX.out.symm))
                have HU := Lib.hid (show (ls ++ if X < z + 1 then [X] else []) = (ls ++ if X < z then [X] else []) by
                  by_cases k : X < z
                  · rw [if_pos k, if_pos (by omega)]
                  · rw [if_neg k, if_neg (by omega)])
                have HA := Lib.hid hA
                clear hA he
                go_wp2_with fail
                go_big_region
                all_goals
                  go_wp2_with fail
                  go_roundg ((low + 7 - (z + 1)).toNat)
                  case measure => have := HGK2.out; omega
                  case rel => exact ⟨v, z + 1, rfl, rfl, rfl, by omega, by omega, by rw [HU.out]; exact HA.out.later (by (repeat' (first | (with_reducible exact G.refl _) | (with_reducible refine G.drewN ?_ _) | (with_reducible refine G.drew ?_) | (with_reducible refine G.alloc ?_ _))))⟩
            · have HA := Lib.hid (show At w2 wr v (ls ++ [X]) by rw [if_pos (by have := HXB.out; omega)] at hA; exact hA)
              clear hA
              go_wp2_with fail
              go_roundg (l.length - (i + 1))
              case measure => have := HGK.out; omega
              case rel => exact ⟨v, i + 1, rfl, by go_num, rfl, by omega, by rw [HTN.out, ← hX.out]; exact HA.out⟩
        · obtain rfl : i = l.length := by omega
          rw [List.take_length] at hA
          have HA := Lib.hid hA
          clear hA
          go_wp2_with fail
          go_ret
          exact ⟨v, rfl, by rw [← HFin2.out]; exact HA.out.base gW2⟩
end Go.Proofs.YtnakfeamimeioaaDoor
