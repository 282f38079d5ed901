import Derived.Test.YtdiokagnpiiijaaDoorLists
/-! The alteration of a step: of the program and of the reference; equal lists. -/
namespace Go.Proofs.YtdiokagnpiiijaaDoor
open Go.RowKit
attribute [local go_sem] World.cell?_alloc_some

theorem sgL_len {f : Int} (_ : Sg f) : (sgL f).length = f.natAbs := by
  unfold sgL; simp
theorem sgL_get {f : Int} {i : Nat} (h : Sg f) (hi : i < (sgL f).length) : ∃ x, (sgL f)[i]? = some x ∧ 0 ≤ x ∧ x ≤ 6 ∧ (0 < f → rk x = i ∧ (i : Int) < f) ∧ (f < 0 → rk x = 6 - i ∧ (i : Int) < -f) := by
  rw [sgL_len h] at hi
  obtain ⟨f0, f1⟩ := h
  by_cases c : 0 < f
  · refine ⟨sh i, ?_, (sh_bd _).1, (sh_bd _).2, fun _ => ⟨rk_sh (by omega) (by omega), by omega⟩, fun d => by omega⟩
    rw [sgL_up (by omega)]; unfold up
    rw [List.getElem?_map, List.getElem?_range (by omega)]; rfl
  · refine ⟨sh (6 - i), ?_, (sh_bd _).1, (sh_bd _).2, fun d => by omega, fun _ => ⟨rk_sh (by omega) (by omega), by omega⟩⟩
    rw [sgL_dn (by omega)]; unfold dn
    rw [List.getElem?_map, List.getElem?_range (by omega)]; rfl
theorem al_hit {f s : Int} {i : Nat} (h : Sg f) (hs : (sgL f)[i]? = some s) : (0 < f → al f s = 1) ∧ (¬ 0 < f → al f s = -1) := by
  have hi : i < (sgL f).length := (List.getElem?_eq_some_iff.1 hs).1
  obtain ⟨x, hx, _, _, h1, h2⟩ := sgL_get h hi
  rw [hx] at hs
  obtain rfl := Option.some.inj hs
  rw [sgL_len h] at hi
  unfold al
  constructor
  · intro c
    rw [if_pos (by have := h1 c; omega)]
  · intro c
    have := h2 (by omega)
    rw [if_neg (by omega), if_pos (by omega)]
theorem al_miss {f s : Int} (h : Sg f) (h0 : 0 ≤ s) (h1 : s ≤ 6) (hn : ∀ (i : Nat) (x : Int), (sgL f)[i]? = some x → x ≠ s) : al f s = 0 := by
  have hb := rk_in h0 h1
  have hl := sgL_len h
  obtain ⟨f0, f1⟩ := id h
  unfold al
  by_cases c : rk s < f
  · exfalso
    obtain ⟨x, hx, x0, x1, e1, _⟩ := sgL_get (i := (rk s).toNat) h (by omega)
    refine hn _ _ hx ?_
    have e := (e1 (by omega)).1
    rw [← sh_rk x0 x1, ← sh_rk h0 h1, e]
    congr 1; omega
  · rw [if_neg c]
    by_cases d : 6 - rk s < -f
    · exfalso
      obtain ⟨x, hx, x0, x1, _, e1⟩ := sgL_get (i := (6 - rk s).toNat) h (by omega)
      refine hn _ _ hx ?_
      have e := (e1 (by omega)).1
      rw [← sh_rk x0 x1, ← sh_rk h0 h1, e]
      congr 1; omega
    · rw [if_neg d]

set_option maxRecDepth 100000 in
set_option maxHeartbeats 4000000 in
theorem rAlter_any (f s : Int) (w : World) (hf : Sg f) (h0 : 0 ≤ s) (h1 : s ≤ 6) : Calls Tryd.prog 20 #[.int .i64 f, .int .i64 s] w fun e w' => e = .returned (.int .i64 (al f s)) ∧ G w w' := by
  have HS := Lib.hid hf
  obtain ⟨R, hR⟩ : ∃ z : Int, Hid (z = al f s) := ⟨_, rfl⟩
  rw [← hR.out]
  go_enter Tryd.func20, Tryd.ntmps20
  go_wp2_with fail
  refine (rSignature_any f _ hf).mono ?_
  rintro e w1 ⟨v, rfl, hA⟩
  have hG := hA.2
  have hlen := sgL_len hf
  obtain ⟨f0, f1⟩ := hf
  obtain ⟨l, hl⟩ : ∃ z : List Int, Hid (z = sgL f) := ⟨_, rfl⟩
  rw [← hl.out] at hA hlen
  rcases hA.cells with ⟨rfl, e0⟩ | ⟨g, cap, rfl, hg, hcap, hcap2, hcells⟩
  · have HR := Lib.hid (show R = 0 by
      rw [hR.out]; exact al_miss HS.out h0 h1 (fun i x hx => by rw [← hl.out, e0] at hx; simp at hx))
    clear hA
    go_wp2_with fail
    go_loopw [6] (fun x wr => x = .int .i64 0 ∧ wr = w1) (fun _ _ => 0)
    case atStart => exact ⟨rfl, rfl⟩
    case round =>
      obtain ⟨rfl, rfl⟩ := hrel
      go_wp2_with fail
      go_ret
      exact ⟨ret_int HR.out.symm, by (repeat' (first | (with_reducible exact G.refl _) | (with_reducible assumption) | (with_reducible refine G.drewN ?_ _) | (with_reducible refine G.drew ?_) | (with_reducible refine G.alloc ?_ _) | (with_reducible refine G.setCell ?_ (by first | (with_reducible exact Nat.le_refl _) | (simp; done) | (simp; omega) | omega) _) | (with_reducible refine G.trans ?_ (by assumption))))⟩
  · have HC := Lib.hid hcells
    clear hA hcells
    go_wp2_with fail
    go_loopg [6] l.length (fun k x wr => ∃ i : Nat, x = .int .i64 i ∧ k = l.length - i ∧ i ≤ l.length ∧ Hid (∀ (j : Nat) (x : Int), j < i → l[j]? = some x → x ≠ s) ∧ wr = w1)
    case atStart => exact ⟨0, rfl, by simp, by omega, Lib.hid (fun j x p => by omega), rfl⟩
    case round =>
      obtain ⟨i, rfl, hgk, i1, hno, rfl⟩ := hrel
      have HGK := Lib.hid hgk
      clear hgk
      by_cases hin : i < l.length
      · obtain ⟨p, hp⟩ : ∃ p, l[i]? = some p := ⟨l[i], List.getElem?_eq_getElem hin⟩
        have c0 := HC.out i p hp
        have q := IntWalk.i64_in ((i : Int) + 1) (by omega)
        have HP := Lib.hid hp
        clear hp
        by_cases hm : p = s
        · have hb : (p == s) = true := by rw [hm]; simp
          have HH := Lib.hid (show (0 < f → al f s = 1) ∧ (¬ 0 < f → al f s = -1) from al_hit HS.out (by rw [← hl.out, HP.out, hm]))
          clear hm
          by_cases c : 0 < f
          · have HR := Lib.hid (show R = 1 by rw [hR.out]; exact HH.out.1 c)
            go_wp2_with fail
            go_ret
            exact ⟨ret_int HR.out.symm, by (repeat' (first | (with_reducible exact G.refl _) | (with_reducible assumption) | (with_reducible refine G.drewN ?_ _) | (with_reducible refine G.drew ?_) | (with_reducible refine G.alloc ?_ _) | (with_reducible refine G.setCell ?_ (by first | (with_reducible exact Nat.le_refl _) | (simp; done) | (simp; omega) | omega) _) | (with_reducible refine G.trans ?_ (by assumption))))⟩
          · have HR := Lib.hid (show R = -1 by rw [hR.out]; exact HH.out.2 c)
            go_wp2_with fail
            go_ret
            exact ⟨ret_int HR.out.symm, by (repeat' (first | (with_reducible exact G.refl _) | (with_reducible assumption) | (with_reducible refine G.drewN ?_ _) | (with_reducible refine G.drew ?_) | (with_reducible refine G.alloc ?_ _) | (with_reducible refine G.setCell ?_ (by first | (with_reducible exact Nat.le_refl _) | (simp; done) | (simp; omega) | omega) _) | (with_reducible refine G.trans ?_ (by assumption))))⟩
        · have hb : (p == s) = false := beq_false_of_ne hm
          have HNO := Lib.hid (show ∀ (j : Nat) (x : Int), j < i + 1 → l[j]? = some x → x ≠ s by
            intro j x r hx
            by_cases e : j = i
            · rw [e, HP.out] at hx
              rw [← Option.some.inj hx]; exact hm
            · exact hno.out j x (by omega) hx)
          clear hm
          go_wp2_with fail
          go_roundg (l.length - (i + 1))
          case measure => have := HGK.out; omega
          case rel => exact ⟨i + 1, by go_num, rfl, by omega, HNO, rfl⟩
      · obtain rfl : i = l.length := by omega
        have HR := Lib.hid (show R = 0 by
          rw [hR.out]; exact al_miss HS.out h0 h1 (fun i x hx => by rw [← hl.out] at hx; exact hno.out i x (List.getElem?_eq_some_iff.1 hx).1 hx))
        go_wp2_with fail
        go_ret
        exact ⟨ret_int HR.out.symm, by (repeat' (first | (with_reducible exact G.refl _) | (with_reducible assumption) | (with_reducible refine G.drewN ?_ _) | (with_reducible refine G.drew ?_) | (with_reducible refine G.alloc ?_ _) | (with_reducible refine G.setCell ?_ (by first | (with_reducible exact Nat.le_refl _) | (simp; done) | (simp; omega) | omega) _) | (with_reducible refine G.trans ?_ (by assumption))))⟩

def alV (f s : Int) : Int := if Sg f ∧ (0 ≤ s ∧ s ≤ 6) then al f s else 0
def alE (f s : Int) : Int := if Sg f then (if 0 ≤ s ∧ s ≤ 6 then 0 else 18) else 2
set_option maxHeartbeats 800000 in
theorem Alter_any (f s : Int) (w : World) (hT : Tab w) : Calls Tryd.prog 13 #[.int .i64 f, .int .i64 s] w fun e w' => e = .returned (.tuple #[.int .i64 (alV f s), .int .i64 (alE f s)]) ∧ w = w' := by
  have HT := Lib.hid hT
  clear hT
  by_cases h : Sg f
  · have HS := Lib.hid h
    by_cases c : 0 ≤ s ∧ s ≤ 6
    · have HV := Lib.hid (show alV f s = al f s ∧ alE f s = 0 by unfold alV alE; rw [if_pos ⟨h, c⟩, if_pos h, if_pos c]; exact ⟨rfl, rfl⟩)
      have HD := Lib.hid (show decide (Cl s 0) = true by rw [decide_eq_true]; unfold Cl; omega)
      rw [HV.out.1, HV.out.2]
      clear h HV c
      go_enter Tryd.func13, Tryd.ntmps13
      go_wp2_with fail
      refine (Check_any f _).mono ?_
      rintro e w1 ⟨rfl, rfl⟩
      rw [ck_ok HS.out]
      go_wp2_with fail
      refine (isClass_any s 0 _).mono ?_
      rintro e w1 ⟨rfl, rfl⟩
      rw [HD.out]
      go_wp2_with fail
      refine (alteration_any f s _ HS.out HT.out).mono ?_
      rintro e w1 ⟨rfl, rfl⟩
      go_wp2_with fail
      go_returns
      exact ⟨rfl, rfl⟩
    · have HV := Lib.hid (show alV f s = 0 ∧ alE f s = 18 by unfold alV alE; rw [if_neg (fun k => c k.2), if_pos h, if_neg c]; exact ⟨rfl, rfl⟩)
      have HD := Lib.hid (show decide (Cl s 0) = false by rw [decide_eq_false]; unfold Cl; omega)
      rw [HV.out.1, HV.out.2]
      clear h HV c
      go_enter Tryd.func13, Tryd.ntmps13
      go_wp2_with fail
      refine (Check_any f _).mono ?_
      rintro e w1 ⟨rfl, rfl⟩
      rw [ck_ok HS.out]
      go_wp2_with fail
      refine (isClass_any s 0 _).mono ?_
      rintro e w1 ⟨rfl, rfl⟩
      rw [HD.out]
      go_wp2_with fail
      go_returns
      exact ⟨rfl, rfl⟩
  · have HS := Lib.hid h
    have HV := Lib.hid (show alV f s = 0 ∧ alE f s = 2 by unfold alV alE; rw [if_neg (fun k => h k.1), if_neg h]; exact ⟨rfl, rfl⟩)
    rw [HV.out.1, HV.out.2]
    clear h HV
    go_enter Tryd.func13, Tryd.ntmps13
    go_wp2_with fail
    refine (Check_any f _).mono ?_
    rintro e w1 ⟨rfl, rfl⟩
    rw [ck_bad HS.out]
    go_wp2_with fail
    go_returns
    exact ⟨rfl, rfl⟩

/-- a list that lies in a world -/
def Lies (w : World) (v : Value) (l : List Int) : Prop := (v = .slice none 0 0 ∧ l = []) ∨ ∃ g cap, v = .slice (some ⟨g, 0, none⟩) l.length cap ∧ l.length ≤ cap ∧ cap ≤ maxLen ∧ ∀ (i : Nat) (x : Int), l[i]? = some x → w.cell? ⟨g, i, none⟩ = some (.int .i64 x)
theorem At.lies {w W : World} {v : Value} {l : List Int} (h : At w W v l) : Lies W v l := by
  rcases h.cells with h | ⟨g, cap, h1, _, h2, h3, h4⟩
  · exact .inl h
  · exact .inr ⟨g, cap, h1, h2, h3, h4⟩
theorem Lies.later {w w' : World} {v : Value} {l : List Int} (h : Lies w v l) (g : G w w') : Lies w' v l := by
  rcases h with h | ⟨b, cap, h1, h2, h3, h4⟩
  · exact .inl h
  · exact .inr ⟨b, cap, h1, h2, h3, fun i x hx => g.at (h4 i x hx)⟩

set_option maxRecDepth 100000 in
set_option maxHeartbeats 4000000 in
theorem numbers_eq (a b : Value) (l : List Int) (w : World) (ha : Lies w a l) (hb : Lies w b l) (hl : l.length ≤ 100) : Calls Tryd.prog 18 #[a, b] w fun e w' => e = .returned (.bool true) ∧ G w w' := by
  rcases ha with ⟨rfl, rfl⟩ | ⟨g, cap, rfl, hcap, hcap2, hc⟩
  · obtain ⟨bp, bc, rfl⟩ : ∃ p c, b = .slice p 0 c := by
      rcases hb with ⟨rfl, _⟩ | ⟨g, cap, rfl, _⟩
      · exact ⟨_, _, rfl⟩
      · exact ⟨_, _, rfl⟩
    clear hb
    go_enter Tryd.func18, Tryd.ntmps18
    go_wp2_with fail
    go_loopw [5] (fun x wr => x = .int .i64 0 ∧ wr = w) (fun _ _ => 0)
    case atStart => exact ⟨rfl, rfl⟩
    case round =>
      obtain ⟨rfl, rfl⟩ := hrel
      go_wp2_with fail
      go_ret
      exact ⟨rfl, by (repeat' (first | (with_reducible exact G.refl _) | (with_reducible assumption) | (with_reducible refine G.drewN ?_ _) | (with_reducible refine G.drew ?_) | (with_reducible refine G.alloc ?_ _) | (with_reducible refine G.setCell ?_ (by first | (with_reducible exact Nat.le_refl _) | (simp; done) | (simp; omega) | omega) _) | (with_reducible refine G.trans ?_ (by assumption))))⟩
  · rcases hb with ⟨rfl, rfl⟩ | ⟨g2, cap2, rfl, hcap3, hcap4, hd⟩
    · go_enter Tryd.func18, Tryd.ntmps18
      go_wp2_with fail
      go_loopw [5] (fun x wr => x = .int .i64 0 ∧ wr = w) (fun _ _ => 0)
      case atStart => exact ⟨rfl, rfl⟩
      case round =>
        obtain ⟨rfl, rfl⟩ := hrel
        go_wp2_with fail
        go_ret
        exact ⟨rfl, by (repeat' (first | (with_reducible exact G.refl _) | (with_reducible assumption) | (with_reducible refine G.drewN ?_ _) | (with_reducible refine G.drew ?_) | (with_reducible refine G.alloc ?_ _) | (with_reducible refine G.setCell ?_ (by first | (with_reducible exact Nat.le_refl _) | (simp; done) | (simp; omega) | omega) _) | (with_reducible refine G.trans ?_ (by assumption))))⟩
    · have HC := Lib.hid hc
      have HD := Lib.hid hd
      clear hc hd
      go_enter Tryd.func18, Tryd.ntmps18
      go_wp2_with fail
      go_loopg [5] l.length (fun k x wr => ∃ i : Nat, x = .int .i64 i ∧ k = l.length - i ∧ i ≤ l.length ∧ wr.heap = w.heap ∧ G w wr)
      case atStart => exact ⟨0, rfl, by simp, by omega, rfl, G.refl _⟩
      case round =>
        obtain ⟨i, rfl, hgk, i1, hh, hG⟩ := hrel
        have HGK := Lib.hid hgk
        clear hgk
        by_cases hin : i < l.length
        · obtain ⟨p, hp⟩ : ∃ p, l[i]? = some p := ⟨l[i], List.getElem?_eq_getElem hin⟩
          have c0 := hG.at (HC.out i p hp)
          have d0 := hG.at (HD.out i p hp)
          have q := IntWalk.i64_in ((i : Int) + 1) (by omega)
          clear hp
          go_wp2_with fail
          go_region_held3 (fun w' => w'.cell? ⟨g, i, none⟩ = some (.int .i64 p) ∧ w'.cell? ⟨g2, i, none⟩ = some (.int .i64 p))
            (first | (with_reducible assumption) | ((try dsimp only); (repeat' (with_reducible apply And.intro)) <;> go_simp))
            (fail)
          go_wp2_with fail
          go_roundg (l.length - (i + 1))
          case measure => have := HGK.out; omega
          case rel => exact ⟨i + 1, by go_num, rfl, by omega, by first | exact hh | (simp; exact hh), by (repeat' (first | (with_reducible exact G.refl _) | (with_reducible assumption) | (with_reducible refine G.drewN ?_ _) | (with_reducible refine G.drew ?_) | (with_reducible refine G.alloc ?_ _) | (with_reducible refine G.setCell ?_ (by first | (with_reducible exact Nat.le_refl _) | (simp; done) | (simp; omega) | omega) _) | (with_reducible refine G.trans ?_ (by assumption))))⟩
        · obtain rfl : i = l.length := by omega
          go_wp2_with fail
          go_ret
          exact ⟨rfl, by (repeat' (first | (with_reducible exact G.refl _) | (with_reducible assumption) | (with_reducible refine G.drewN ?_ _) | (with_reducible refine G.drew ?_) | (with_reducible refine G.alloc ?_ _) | (with_reducible refine G.setCell ?_ (by first | (with_reducible exact Nat.le_refl _) | (simp; done) | (simp; omega) | omega) _) | (with_reducible refine G.trans ?_ (by assumption))))⟩
end Go.Proofs.YtdiokagnpiiijaaDoor
