import Derived.Test.YtipamoakeccecaaDoorOps3
import Derived.Shelf.Strconv.AtoiAll
import Derived.Shelf.Strconv.ErrVarAll
/-! What follows the letter of a name: rest. -/
namespace Go.Proofs.YtipamoakeccecaaDoor
open Go.RowKit Go.Shelf
attribute [local go_sem] World.cell?_alloc_some

theorem Atoi_good (D : ByteArray) (v : Int) (w : World) (hs : D.size ≤ 1000) (h : Lib.atoiAll D.data.toList = .ok v) :
    Calls Tryd.prog 34 #[.string D] w fun e w' => e = .returned (.tuple #[.int .i64 v, .nilIface]) ∧ G w w' :=
  (Any.strconv_Atoi_ok Tryd.laysC172 D (by omega) v h w).mono fun _ _ ⟨he, hw⟩ => ⟨he, by
    rcases hw with rfl | ⟨t, rfl⟩
    · exact G.refl _
    · exact Lib.bytesWorld_below _ _ _⟩
theorem Atoi_bad (D : ByteArray) (w : World) (hs : D.size ≤ 1000) (hT : Tab w) (h : ∀ v, Lib.atoiAll D.data.toList ≠ .ok v) :
    Calls Tryd.prog 34 #[.string D] w fun e w' => (∃ (z : Int) (t : TypeId) (p : Value), e = .returned (.tuple #[.int .i64 z, .iface t p])) ∧ G w w' := by
  cases hc : Lib.atoiAll D.data.toList
  · exact absurd hc (h _)
  · obtain ⟨tp, p, hv⟩ := hT.esy
    exact (Any.strconv_Atoi_syntax_var Tryd.laysC172 D (by omega) hc tp p w hv).mono fun _ _ ⟨N, he, _, _, hG⟩ => ⟨⟨_, _, _, he⟩, hG⟩
  · obtain ⟨tp, p, hv⟩ := hT.erg
    exact (Any.strconv_Atoi_range_var Tryd.laysC172 D (by omega) hc tp p w hv).mono fun _ _ ⟨N, he, _, _, hG⟩ => ⟨⟨_, _, _, he⟩, hG⟩

/-- what is left of a text behind the signs -/
def dg (l : List UInt8) : List UInt8 := Lib.trimLeftS l [98, 35]
theorem dg_le (l : List UInt8) : (dg l).length ≤ l.length := by
  unfold dg Lib.trimLeftS; exact (List.dropWhile_suffix _).sublist.length_le
theorem trimInfo : (Tryd.prog.info? (Tryd.lays161_ren.t 116)).map (fun i => (i.zero, i.size)) = some (some (.agg (Array.replicate 256 (.bool false))), 256) := by kernel_rfl
theorem Trim_any (s D : ByteArray) (w : World) (hD : Hid (D = ⟨(dg s.data.toList).toArray⟩)) :
    Calls Tryd.prog 33 #[.string s, .string ⟨#[98, 35]⟩] w fun e w' => e = .returned (.string D) ∧ G w w' := by
  rw [hD.out]
  exact Any.strings_TrimLeft_laid Tryd.lays161 trimInfo s ⟨#[98, 35]⟩ w (by decide) (by
    intro j b h
    match j, h with
    | 0, h => simp at h; subst h; decide
    | 1, h => simp at h; subst h; decide
    | j + 2, h => simp at h)

/-- the sign with an index -/
def sgi (k : Int) : List UInt8 := sig (k - 2)
def alF (d l : List UInt8) : Option Int := ([0, 1, 2, 3, 4] : List Int).find? (fun j => sgi j ++ d == l)
/-- rest: the alteration and the octave, if the text is written so -/
def restF (l : List UInt8) : Option (Int × Int) :=
  match Lib.atoiAll (dg l) with
  | .ok v => if Lib.itoa v = dg l ∧ -1 ≤ v ∧ v ≤ 9 then (alF (dg l) l).map (fun k => (k - 2, v)) else none
  | _ => none
def restV (r : Option (Int × Int)) : Value := .tuple #[.int .i64 (r.getD (0, 0)).1, .int .i64 (r.getD (0, 0)).2, .bool r.isSome]

theorem al_some {d l : List UInt8} {k : Int} (h0 : 0 ≤ k) (h1 : k ≤ 4) (hn : ∀ j, 0 ≤ j → j < k → sgi j ++ d ≠ l) (h : sgi k ++ d = l) : alF d l = some k := by
  have hk : k = 0 ∨ k = 1 ∨ k = 2 ∨ k = 3 ∨ k = 4 := by omega
  unfold alF
  have e : (sgi k ++ d == l) = true := by rw [h]; simp
  have f : ∀ j, 0 ≤ j → j < k → (sgi j ++ d == l) = false := fun j a b => beq_false_of_ne (hn j a b)
  rcases hk with rfl | rfl | rfl | rfl | rfl
  · rw [List.find?_cons, e]
  · rw [List.find?_cons, f 0 (by omega) (by omega)]; dsimp only; rw [List.find?_cons, e]
  · rw [List.find?_cons, f 0 (by omega) (by omega)]; dsimp only; rw [List.find?_cons, f 1 (by omega) (by omega)]; dsimp only; rw [List.find?_cons, e]
  · rw [List.find?_cons, f 0 (by omega) (by omega)]; dsimp only; rw [List.find?_cons, f 1 (by omega) (by omega)]; dsimp only; rw [List.find?_cons, f 2 (by omega) (by omega)]; dsimp only; rw [List.find?_cons, e]
  · rw [List.find?_cons, f 0 (by omega) (by omega)]; dsimp only; rw [List.find?_cons, f 1 (by omega) (by omega)]; dsimp only; rw [List.find?_cons, f 2 (by omega) (by omega)]; dsimp only; rw [List.find?_cons, f 3 (by omega) (by omega)]; dsimp only; rw [List.find?_cons, e]
theorem al_none {d l : List UInt8} (hn : ∀ j, 0 ≤ j → j < 5 → sgi j ++ d ≠ l) : alF d l = none := by
  unfold alF
  rw [List.find?_eq_none]
  intro j hj
  have : 0 ≤ j ∧ j < 5 := by simp at hj; omega
  simpa using hn j this.1 this.2

/-- the table of the signs by value, indexed -/
theorem idx5 (k : Int) (h0 : 0 ≤ k) (h1 : k ≤ 4) (B : ByteArray) (hB : B = ⟨(sgi k).toArray⟩) (w : World) :
    (Instr.index 58 (.agg #[.string ⟨#[98, 98]⟩, .string ⟨#[98]⟩, .string ⟨#[]⟩, .string ⟨#[35]⟩, .string ⟨#[35, 35]⟩]) (.int .i64 k)).run Tryd.prog w = .ok (.string B) w := by
  have hk : k = 0 ∨ k = 1 ∨ k = 2 ∨ k = 3 ∨ k = 4 := by omega
  subst hB
  rcases hk with rfl | rfl | rfl | rfl | rfl <;> simp [Instr.index, run_underlying Tryd.underlying58, asIntOf, go_sem, sgi, sig]

set_option maxHeartbeats 1600000 in
theorem rest_err (s : ByteArray) (w : World) (hs : s.size ≤ 100) (hT : Tab w) (h : ∀ v, Lib.atoiAll (dg s.data.toList) ≠ .ok v) :
    Calls Tryd.prog 26 #[.string s] w fun e w' => e = .returned (.tuple #[.int .i64 0, .int .i64 0, .bool false]) ∧ G w w' := by
  have HT := Lib.hid hT
  clear hT
  obtain ⟨D, hD⟩ : ∃ z : ByteArray, Hid (z = ⟨(dg s.data.toList).toArray⟩) := ⟨_, rfl⟩
  have hDl : D.data.toList = dg s.data.toList := by rw [hD.out]
  have hDs : D.size ≤ 100 := by
    have := dg_le s.data.toList
    have e : D.size = (dg s.data.toList).length := by rw [hD.out]; simp [ByteArray.size]
    have e2 : s.data.toList.length = s.size := by simp
    omega
  have H := Lib.hid (show ∀ v, Lib.atoiAll D.data.toList ≠ .ok v by rw [hDl]; exact h)
  clear h hDl
  go_enter Tryd.func26, Tryd.ntmps26
  go_wp2_with fail
  refine (Trim_any s D _ hD).mono ?_
  rintro e w1 ⟨rfl, hG1⟩
  go_wp2_with fail
  refine (Atoi_bad D _ (by omega) (HT.out.later (by (repeat' (first | (with_reducible exact G.refl _) | (with_reducible assumption) | (with_reducible refine G.drewN ?_ _) | (with_reducible refine G.drew ?_) | (with_reducible refine G.alloc ?_ _) | (with_reducible refine G.setCell ?_ (by first | (with_reducible exact Nat.le_refl _) | (simp; done) | (simp; omega) | omega) _) | (with_reducible refine G.trans ?_ (by assumption)))))) H.out).mono ?_
  rintro e w2 ⟨⟨z, t, p, rfl⟩, hG2⟩
  go_wp2_with fail
  go_returns
  exact ⟨rfl, by (repeat' (first | (with_reducible exact G.refl _) | (with_reducible assumption) | (with_reducible refine G.drewN ?_ _) | (with_reducible refine G.drew ?_) | (with_reducible refine G.alloc ?_ _) | (with_reducible refine G.setCell ?_ (by first | (with_reducible exact Nat.le_refl _) | (simp; done) | (simp; omega) | omega) _) | (with_reducible refine G.trans ?_ (by assumption))))⟩

theorem toList_data (B : ByteArray) : B.toList = B.data.toList := ByteArray.toList_eq B
set_option maxHeartbeats 1600000 in
theorem rest_ne (s : ByteArray) (v : Int) (w : World) (hs : s.size ≤ 100) (hT : Tab w) (h : Lib.atoiAll (dg s.data.toList) = .ok v) (hne : Lib.itoa v ≠ dg s.data.toList) :
    Calls Tryd.prog 26 #[.string s] w fun e w' => e = .returned (.tuple #[.int .i64 0, .int .i64 0, .bool false]) ∧ G w w' := by
  have HT := Lib.hid hT
  clear hT
  obtain ⟨D, hD⟩ : ∃ z : ByteArray, Hid (z = ⟨(dg s.data.toList).toArray⟩) := ⟨_, rfl⟩
  have hDl : D.data.toList = dg s.data.toList := by rw [hD.out]
  have hDs : D.size ≤ 100 := by
    have := dg_le s.data.toList
    have e : D.size = (dg s.data.toList).length := by rw [hD.out]; simp [ByteArray.size]
    have e2 : s.data.toList.length = s.size := by simp
    omega
  have H := Lib.hid (show Lib.atoiAll D.data.toList = .ok v by rw [hDl]; exact h)
  obtain ⟨vb0, vb1⟩ := Lib.atoiAll_bounds h
  obtain ⟨B, hB⟩ : ∃ z : ByteArray, Hid (z = ⟨(Lib.itoa v).toArray⟩) := ⟨_, rfl⟩
  have hBD : (B.toList == D.toList) = false := by
    rw [toList_data, toList_data, hDl, hB.out]
    exact beq_false_of_ne hne
  clear h hne hDl
  go_enter Tryd.func26, Tryd.ntmps26
  go_wp2_with fail
  refine (Trim_any s D _ hD).mono ?_
  rintro e w1 ⟨rfl, hG1⟩
  go_wp2_with fail
  refine (Atoi_good D v _ (by omega) H.out).mono ?_
  rintro e w2 ⟨rfl, hG2⟩
  go_wp2_with fail
  refine (Itoa_B v B _ hB (by omega) (by omega) (HT.out.later (by (repeat' (first | (with_reducible exact G.refl _) | (with_reducible assumption) | (with_reducible refine G.drewN ?_ _) | (with_reducible refine G.drew ?_) | (with_reducible refine G.alloc ?_ _) | (with_reducible refine G.setCell ?_ (by first | (with_reducible exact Nat.le_refl _) | (simp; done) | (simp; omega) | omega) _) | (with_reducible refine G.trans ?_ (by assumption))))))).mono ?_
  rintro e w3 ⟨rfl, hG3⟩
  go_wp2_with fail
  go_returns
  exact ⟨rfl, by (repeat' (first | (with_reducible exact G.refl _) | (with_reducible assumption) | (with_reducible refine G.drewN ?_ _) | (with_reducible refine G.drew ?_) | (with_reducible refine G.alloc ?_ _) | (with_reducible refine G.setCell ?_ (by first | (with_reducible exact Nat.le_refl _) | (simp; done) | (simp; omega) | omega) _) | (with_reducible refine G.trans ?_ (by assumption))))⟩

set_option maxHeartbeats 1600000 in
theorem rest_out (s : ByteArray) (v : Int) (w : World) (hs : s.size ≤ 100) (hT : Tab w) (h : Lib.atoiAll (dg s.data.toList) = .ok v) (heq : Lib.itoa v = dg s.data.toList) (hv : v < -1 ∨ 9 < v) :
    Calls Tryd.prog 26 #[.string s] w fun e w' => e = .returned (.tuple #[.int .i64 0, .int .i64 0, .bool false]) ∧ G w w' := by
  have HT := Lib.hid hT
  clear hT
  obtain ⟨D, hD⟩ : ∃ z : ByteArray, Hid (z = ⟨(dg s.data.toList).toArray⟩) := ⟨_, rfl⟩
  have hDl : D.data.toList = dg s.data.toList := by rw [hD.out]
  have hDs : D.size ≤ 100 := by
    have := dg_le s.data.toList
    have e : D.size = (dg s.data.toList).length := by rw [hD.out]; simp [ByteArray.size]
    have e2 : s.data.toList.length = s.size := by simp
    omega
  have H := Lib.hid (show Lib.atoiAll D.data.toList = .ok v by rw [hDl]; exact h)
  obtain ⟨vb0, vb1⟩ := Lib.atoiAll_bounds h
  have hB : Hid (D = ⟨(Lib.itoa v).toArray⟩) := Lib.hid (by rw [hD.out, heq])
  have hBD : (D.toList == D.toList) = true := by simp
  clear h heq hDl
  rcases hv with hv | hv
  all_goals
    go_enter Tryd.func26, Tryd.ntmps26
    go_wp2_with fail
    refine (Trim_any s D _ hD).mono ?_
    rintro e w1 ⟨rfl, hG1⟩
    go_wp2_with fail
    refine (Atoi_good D v _ (by omega) H.out).mono ?_
    rintro e w2 ⟨rfl, hG2⟩
    go_wp2_with fail
    refine (Itoa_B v D _ hB (by omega) (by omega) (HT.out.later (by (repeat' (first | (with_reducible exact G.refl _) | (with_reducible assumption) | (with_reducible refine G.drewN ?_ _) | (with_reducible refine G.drew ?_) | (with_reducible refine G.alloc ?_ _) | (with_reducible refine G.setCell ?_ (by first | (with_reducible exact Nat.le_refl _) | (simp; done) | (simp; omega) | omega) _) | (with_reducible refine G.trans ?_ (by assumption))))))).mono ?_
    rintro e w3 ⟨rfl, hG3⟩
    go_wp2_with fail
    go_returns
    exact ⟨rfl, by (repeat' (first | (with_reducible exact G.refl _) | (with_reducible assumption) | (with_reducible refine G.drewN ?_ _) | (with_reducible refine G.drew ?_) | (with_reducible refine G.alloc ?_ _) | (with_reducible refine G.setCell ?_ (by first | (with_reducible exact Nat.le_refl _) | (simp; done) | (simp; omega) | omega) _) | (with_reducible refine G.trans ?_ (by assumption))))⟩

theorem cat_eq (A D s : ByteArray) (k : Int) (l : List UInt8) (hA : A = ⟨(sgi k).toArray⟩) (hD : D = ⟨l.toArray⟩) : ((A ++ D).toList == s.toList) = (sgi k ++ l == s.data.toList) := by
  rw [toList_data, toList_data, hA, hD]
  simp
theorem sgi_size (k : Int) (A : ByteArray) (hA : A = ⟨(sgi k).toArray⟩) : A.size ≤ 2 := by
  rw [hA]
  have : (sgi k).length ≤ 2 := by unfold sgi sig; repeat' split
                                  all_goals decide
  simpa [ByteArray.size] using this

set_option maxRecDepth 20000 in
set_option maxHeartbeats 3200000 in
theorem rest_in (s : ByteArray) (v : Int) (w : World) (hs : s.size ≤ 100) (hT : Tab w) (h : Lib.atoiAll (dg s.data.toList) = .ok v) (heq : Lib.itoa v = dg s.data.toList) (hv0 : -1 ≤ v) (hv1 : v ≤ 9) :
    Calls Tryd.prog 26 #[.string s] w fun e w' => e = .returned (restV ((alF (dg s.data.toList) s.data.toList).map (fun k => (k - 2, v)))) ∧ G w w' := by
  have HT := Lib.hid hT
  clear hT
  obtain ⟨D, hD⟩ : ∃ z : ByteArray, Hid (z = ⟨(dg s.data.toList).toArray⟩) := ⟨_, rfl⟩
  have hDl : D.data.toList = dg s.data.toList := by rw [hD.out]
  have hDs : D.size ≤ 100 := by
    have := dg_le s.data.toList
    have e : D.size = (dg s.data.toList).length := by rw [hD.out]; simp [ByteArray.size]
    have e2 : s.data.toList.length = s.size := by simp
    omega
  have H := Lib.hid (show Lib.atoiAll D.data.toList = .ok v by rw [hDl]; exact h)
  obtain ⟨vb0, vb1⟩ := Lib.atoiAll_bounds h
  have hB : Hid (D = ⟨(Lib.itoa v).toArray⟩) := Lib.hid (by rw [hD.out, heq])
  have hBD : (D.toList == D.toList) = true := by simp
  clear h heq hDl
  obtain ⟨R, hR⟩ : ∃ R, Hid (R = restV ((alF (dg s.data.toList) s.data.toList).map (fun k => (k - 2, v)))) := ⟨_, rfl⟩
  rw [← hR.out]
  go_enter Tryd.func26, Tryd.ntmps26
  go_wp2_with fail
  refine (Trim_any s D _ hD).mono ?_
  rintro e w1 ⟨rfl, hG1⟩
  go_wp2_with fail
  refine (Atoi_good D v _ (by omega) H.out).mono ?_
  rintro e w2 ⟨rfl, hG2⟩
  go_wp2_with fail
  refine (Itoa_B v D _ hB (by omega) (by omega) (HT.out.later (by (repeat' (first | (with_reducible exact G.refl _) | (with_reducible assumption) | (with_reducible refine G.drewN ?_ _) | (with_reducible refine G.drew ?_) | (with_reducible refine G.alloc ?_ _) | (with_reducible refine G.setCell ?_ (by first | (with_reducible exact Nat.le_refl _) | (simp; done) | (simp; omega) | omega) _) | (with_reducible refine G.trans ?_ (by assumption))))))).mono ?_
  rintro e w3 ⟨rfl, hG3⟩
  obtain ⟨g0, g1, g2, g3, g4⟩ := (HT.out.later (show G w w3 by (repeat' (first | (with_reducible exact G.refl _) | (with_reducible assumption) | (with_reducible refine G.drewN ?_ _) | (with_reducible refine G.drew ?_) | (with_reducible refine G.alloc ?_ _) | (with_reducible refine G.setCell ?_ (by first | (with_reducible exact Nat.le_refl _) | (simp; done) | (simp; omega) | omega) _) | (with_reducible refine G.trans ?_ (by assumption)))))).sgn
  go_wp2_with fail
  clear g0 g1 g2 g3 g4
  go_loopg [3, 33] 5 (fun g y x wr => y = .int .i64 v ∧ ∃ k : Int, x = .int .i64 k ∧ g = (5 - k).toNat ∧ 0 ≤ k ∧ k ≤ 5 ∧ Hid (∀ j, 0 ≤ j → j < k → sgi j ++ dg s.data.toList ≠ s.data.toList) ∧ wr = w3)
  case atStart => exact ⟨rfl, 0, rfl, by simp, by omega, by omega, fun j a b => by omega, rfl⟩
  case round =>
    obtain ⟨rfl, k, rfl, hgk, k0, k1, hne, rfl⟩ := hrel
    have HGK := Lib.hid hgk
    clear hgk
    by_cases h5 : k = 5
    · subst h5
      have HN := Lib.hid (al_none hne.out)
      clear hne
      go_wp2_with fail
      go_returns
      exact ⟨by rw [hR.out, HN.out]; rfl, by (repeat' (first | (with_reducible exact G.refl _) | (with_reducible assumption) | (with_reducible refine G.drewN ?_ _) | (with_reducible refine G.drew ?_) | (with_reducible refine G.alloc ?_ _) | (with_reducible refine G.setCell ?_ (by first | (with_reducible exact Nat.le_refl _) | (simp; done) | (simp; omega) | omega) _) | (with_reducible refine G.trans ?_ (by assumption))))⟩
    · have k4 : k ≤ 4 := by omega
      obtain ⟨A, hA⟩ : ∃ z : ByteArray, Hid (z = ⟨(sgi k).toArray⟩) := ⟨_, rfl⟩
      have hAs := sgi_size k A hA.out
      have hix := fun wz => idx5 k k0 k4 A hA.out wz
      have hcat := cat_eq A D s k _ hA.out hD.out
      have hc1 : (9223372036854775807 < A.size + D.size) = False := by simp only [eq_iff_iff, iff_false]; omega
      have hk5 : k = 0 ∨ k = 1 ∨ k = 2 ∨ k = 3 ∨ k = 4 := by omega
      by_cases hm : sgi k ++ dg s.data.toList = s.data.toList
      · have HA := Lib.hid (al_some k0 k4 hne.out hm)
        rw [beq_iff_eq.2 hm] at hcat
        clear hne hm
        obtain ⟨V, hV⟩ : ∃ V, Hid (V = Value.tuple #[.int .i64 (k - 2), .int .i64 v, .bool true]) := ⟨_, rfl⟩
        have HRV := Lib.hid (show R = V by rw [hR.out, HA.out, hV.out]; rfl)
        clear HA
        rcases hk5 with rfl | rfl | rfl | rfl | rfl
        all_goals
          go_wp2_with fail
          go_returns
          exact ⟨by rw [HRV.out, hV.out]; rfl, by (repeat' (first | (with_reducible exact G.refl _) | (with_reducible assumption) | (with_reducible refine G.drewN ?_ _) | (with_reducible refine G.drew ?_) | (with_reducible refine G.alloc ?_ _) | (with_reducible refine G.setCell ?_ (by first | (with_reducible exact Nat.le_refl _) | (simp; done) | (simp; omega) | omega) _) | (with_reducible refine G.trans ?_ (by assumption))))⟩
      · have HNE := Lib.hid (show ∀ j, 0 ≤ j → j < k + 1 → sgi j ++ dg s.data.toList ≠ s.data.toList by
          intro j a b
          by_cases c : j = k
          · rw [c]; exact hm
          · exact hne.out j a (by omega))
        rw [beq_false_of_ne hm] at hcat
        clear hne hm
        obtain ⟨GG, hGG⟩ : ∃ z : Nat, Hid (z = (5 - (k + 1)).toNat) := ⟨_, rfl⟩
        rcases hk5 with rfl | rfl | rfl | rfl | rfl
        all_goals
          go_wp2_with fail
          go_roundg GG
          case measure => have := HGK.out; have := hGG.out; omega
          case rel => exact ⟨rfl, _, rfl, by rw [hGG.out]; rfl, by omega, by omega, HNE, rfl⟩

/-- rest, for every text of up to 100 bytes -/
theorem rest_any (s : ByteArray) (w : World) (hs : s.size ≤ 100) (hT : Tab w) :
    Calls Tryd.prog 26 #[.string s] w fun e w' => e = .returned (restV (restF s.data.toList)) ∧ G w w' := by
  cases h : Lib.atoiAll (dg s.data.toList)
  · rename_i v
    have e : restF s.data.toList = if Lib.itoa v = dg s.data.toList ∧ -1 ≤ v ∧ v ≤ 9 then (alF (dg s.data.toList) s.data.toList).map (fun k => (k - 2, v)) else none := by
      unfold restF; rw [h]
    rw [e]
    by_cases h1 : Lib.itoa v = dg s.data.toList
    · by_cases h2 : -1 ≤ v ∧ v ≤ 9
      · rw [if_pos ⟨h1, h2⟩]; exact rest_in s v w hs hT h h1 h2.1 h2.2
      · rw [if_neg (fun k => h2 k.2)]; exact rest_out s v w hs hT h h1 (by omega)
    · rw [if_neg (fun k => h1 k.1)]; exact rest_ne s v w hs hT h h1
  · have e : restF s.data.toList = none := by unfold restF; rw [h]
    rw [e]; exact rest_err s w hs hT (by intro v; rw [h]; simp)
  · have e : restF s.data.toList = none := by unfold restF; rw [h]
    rw [e]; exact rest_err s w hs hT (by intro v; rw [h]; simp)
end Go.Proofs.YtipamoakeccecaaDoor
