import Derived.Test.YtipamoakeccecaaDoorRest
/-! Parse: the pitch of a name, or the offset and the error. -/
namespace Go.Proofs.YtipamoakeccecaaDoor
open Go.RowKit Go.Shelf
attribute [local go_sem] World.cell?_alloc_some

abbrev LET : List UInt8 := [67, 68, 69, 70, 71, 65, 66]
def parseF (l : List UInt8) : P3 × Int × Int :=
  match l with
  | [] => ((0, 0, 0), 0, 4)
  | c :: r =>
    if Lib.indexByte LET c < 0 then ((0, 0, 0), 0, 6)
    else match restF r with
      | none => ((0, 0, 0), 1, 3)
      | some (a, v) => ((ey (Lib.indexByte LET c) a v (Lib.indexByte LET c), ey (Lib.indexByte LET c) a v a, ey (Lib.indexByte LET c) a v v), 0, er (Lib.indexByte LET c) a v)
def parseV (x : P3 × Int × Int) : Value := .tuple #[.agg #[.int .i64 x.1.1, .int .i64 x.1.2.1, .int .i64 x.1.2.2], .int .i64 x.2.1, .int .i64 x.2.2]

theorem ix_bd (l : List UInt8) (c : UInt8) : -1 ≤ Lib.indexByte l c ∧ Lib.indexByte l c < l.length := by
  induction l with
  | nil => simp [Lib.indexByte]
  | cons b l ih =>
    unfold Lib.indexByte
    rw [List.length_cons]
    split
    · exact ⟨by omega, by omega⟩
    · split
      · exact ⟨by omega, by omega⟩
      · exact ⟨by omega, by omega⟩
theorem parseF_cons (c : UInt8) (r : List UInt8) : parseF (c :: r) = (if Lib.indexByte LET c < 0 then ((0, 0, 0), 0, 6)
    else match restF r with
      | none => ((0, 0, 0), 1, 3)
      | some (a, v) => ((ey (Lib.indexByte LET c) a v (Lib.indexByte LET c), ey (Lib.indexByte LET c) a v a, ey (Lib.indexByte LET c) a v v), 0, er (Lib.indexByte LET c) a v) : P3 × Int × Int) := rfl
theorem drop_at (s : ByteArray) (k : Nat) (h : k < s.size) : s.data.toList.drop k = s[k] :: s.data.toList.drop (k + 1) := by
  rw [List.drop_eq_getElem_cons (by simpa using h)]; rfl
theorem rest_al {l : List UInt8} {a v : Int} (h : restF l = some (a, v)) : -2 ≤ a ∧ a ≤ 2 ∧ -1 ≤ v ∧ v ≤ 9 := by
  unfold restF at h
  split at h
  · split at h
    · rename_i hh
      cases ha : alF (dg l) l with
      | none => rw [ha] at h; simp at h
      | some k =>
        rw [ha] at h
        simp at h
        unfold alF at ha
        have := List.mem_of_find?_eq_some ha
        simp at this
        omega
    · simp at h
  · simp at h

theorem set3 {w : World} {b : Nat} {x y z u v t : Value} (h0 : w.cell? ⟨b, 0, none⟩ = some x) (h1 : w.cell? ⟨b, 1, none⟩ = some y) (h2 : w.cell? ⟨b, 2, none⟩ = some z) :
    (((w.setCell ⟨b, 0, none⟩ u).setCell ⟨b, 1, none⟩ v).setCell ⟨b, 2, none⟩ t).cell? ⟨b, 0, none⟩ = some u ∧
    (((w.setCell ⟨b, 0, none⟩ u).setCell ⟨b, 1, none⟩ v).setCell ⟨b, 2, none⟩ t).cell? ⟨b, 1, none⟩ = some v ∧
    (((w.setCell ⟨b, 0, none⟩ u).setCell ⟨b, 1, none⟩ v).setCell ⟨b, 2, none⟩ t).cell? ⟨b, 2, none⟩ = some t :=
  ⟨by simp [go_sem, h0], by simp [go_sem, h1], by simp [go_sem, h2]⟩

set_option maxHeartbeats 1600000 in
theorem Parse_nil (w : World) : Calls Tryd.prog 14 #[.string ⟨#[]⟩] w fun e w' => e = .returned (parseV (parseF [])) ∧ G w w' := by
  go_enter Tryd.func14, Tryd.ntmps14
  go_wp2_with fail
  refine bodyPost_ret (v := .tuple #[.agg #[.int .i64 0, .int .i64 0, .int .i64 0], .int .i64 0, .int .i64 4]) (by simp [results, Tryd.results14, go_sem]) rfl ⟨rfl, ?_⟩
  (repeat' (first | (with_reducible exact G.refl _) | (with_reducible assumption) | (with_reducible refine G.drewN ?_ _) | (with_reducible refine G.drew ?_) | (with_reducible refine G.alloc ?_ _) | (with_reducible refine G.setCell ?_ (by first | (with_reducible exact Nat.le_refl _) | (simp; done) | (simp; omega) | omega) _) | (with_reducible refine G.trans ?_ (by assumption))))

set_option maxHeartbeats 3200000 in
theorem Parse_cons (s : ByteArray) (c : UInt8) (r : List UInt8) (w : World) (hs : s.size ≤ 100) (hl : s.data.toList = c :: r) (hT : Tab w) :
    Calls Tryd.prog 14 #[.string s] w fun e w' => e = .returned (parseV (parseF (c :: r))) ∧ G w w' := by
  have HT := Lib.hid hT
  clear hT
  have hsz : s.size = r.length + 1 := by
    have : s.data.toList.length = s.size := by simp
    rw [hl] at this; simpa using this.symm
  have hix : ∀ wz, (Instr.index 9 (.string s) (.int .i64 0)).run Tryd.prog wz = .ok (.int .u8 (c.toNat : Int)) wz := by
    intro wz
    have g : s[0]? = some c := by
      rw [ByteArray.getElem?_lt' s 0 (by omega)]
      have k := drop_at s 0 (by omega)
      rw [List.drop_zero, hl] at k
      rw [(List.cons.inj k).1]
    simp [Instr.index, run_underlying Tryd.underlying9, asIntOf, go_sem, g]
  obtain ⟨S1, hS1⟩ : ∃ z : ByteArray, Hid (z = ⟨r.toArray⟩) := ⟨_, rfl⟩
  have hsl : ∀ wz, (Instr.sliceAt 9 (.string s) (some (.int .i64 1)) none none).run Tryd.prog wz = .ok (.string S1) wz := by
    intro wz
    rw [run_sliceAt_string wz _ _ _ _ _ Tryd.underlying9, run_slice_string_l wz _ _ Tryd.underlying9 _ _ (by omega) (by omega)]
    have e : s.extract 1 s.size = S1 := by
      rw [hS1.out]
      apply ByteArray.ext
      apply Array.toList_inj.1
      simp [hl]
      exact List.take_of_length_le (by omega)
    rw [← e]
    rfl
  have hnil : (s.toList == []) = false := by rw [toList_data, hl]; rfl
  have hS1l : S1.data.toList = r := by rw [hS1.out]
  have hS1s : S1.size ≤ 100 := by
    have e : S1.size = r.length := by rw [hS1.out]; simp [ByteArray.size]
    omega
  obtain ⟨R, hR⟩ : ∃ R, Hid (R = parseV (parseF (c :: r))) := ⟨_, rfl⟩
  rw [← hR.out]
  have hRS := rest_any S1
  rw [hS1l] at hRS
  have ib := ix_bd LET c
  obtain ⟨x, hx⟩ : ∃ x : Int, Lib.indexByte LET c = x := ⟨_, rfl⟩
  have hcc : ((c.toNat : Int)).toNat.toUInt8 = c := by simp
  rw [hx] at ib
  have HX := Lib.hid hx
  clear hx hsz hl hS1l
  go_enter Tryd.func14, Tryd.ntmps14
  go_wp2_with fail
  refine (Tryd.strings_IndexByte _ _ _).mono ?_
  rintro e w1 ⟨rfl, rfl⟩
  rw [hcc, show Lib.indexByte (ByteArray.mk #[67, 68, 69, 70, 71, 65, 66]).data.toList c = x from HX.out]
  by_cases hx0 : x < 0
  · have HR := Lib.hid (show R = parseV ((0, 0, 0), 0, 6) by rw [hR.out]; rw [parseF_cons, HX.out, if_pos hx0])
    clear hRS
    go_wp2_with fail
    refine bodyPost_ret (v := .tuple #[.agg #[.int .i64 0, .int .i64 0, .int .i64 0], .int .i64 0, .int .i64 6]) (by simp [results, Tryd.results14, go_sem]) rfl ⟨by rw [HR.out]; rfl, ?_⟩
    (repeat' (first | (with_reducible exact G.refl _) | (with_reducible assumption) | (with_reducible refine G.drewN ?_ _) | (with_reducible refine G.drew ?_) | (with_reducible refine G.alloc ?_ _) | (with_reducible refine G.setCell ?_ (by first | (with_reducible exact Nat.le_refl _) | (simp; done) | (simp; omega) | omega) _) | (with_reducible refine G.trans ?_ (by assumption))))
  · have HRS := Lib.hid hRS
    clear hRS
    go_wp2_with fail
    refine (HRS.out _ hS1s (HT.out.later (by (repeat' (first | (with_reducible exact G.refl _) | (with_reducible assumption) | (with_reducible refine G.drewN ?_ _) | (with_reducible refine G.drew ?_) | (with_reducible refine G.alloc ?_ _) | (with_reducible refine G.setCell ?_ (by first | (with_reducible exact Nat.le_refl _) | (simp; done) | (simp; omega) | omega) _) | (with_reducible refine G.trans ?_ (by assumption))))))).mono ?_
    rintro e w2 ⟨rfl, hG2⟩
    obtain ⟨⟨z0, z1, z2⟩, f0, f1, f2⟩ := trif_later hG2
    cases hr : restF r with
    | none =>
      have HR := Lib.hid (show R = parseV ((0, 0, 0), 1, 3) by rw [hR.out]; rw [parseF_cons, HX.out, if_neg (show ¬ x < 0 by omega), hr])
      simp only [restV, Option.getD_none, Option.isSome_none]
      clear hr HRS
      go_wp2_with fail
      refine bodyPost_ret (v := .tuple #[.agg #[.int .i64 0, .int .i64 0, .int .i64 0], .int .i64 1, .int .i64 3]) (by simp [results, Tryd.results14, go_sem, z0, z1, z2]) rfl ⟨by rw [HR.out]; rfl, ?_⟩
      (repeat' (first | (with_reducible exact G.refl _) | (with_reducible assumption) | (with_reducible refine G.drewN ?_ _) | (with_reducible refine G.drew ?_) | (with_reducible refine G.alloc ?_ _) | (with_reducible refine G.setCell ?_ (by first | (with_reducible exact Nat.le_refl _) | (simp; done) | (simp; omega) | omega) _) | (with_reducible refine G.trans ?_ (by assumption))))
    | some av =>
      obtain ⟨a, v⟩ := av
      have HR := Lib.hid (show R = parseV ((ey x a v x, ey x a v a, ey x a v v), 0, er x a v) by rw [hR.out]; rw [parseF_cons, HX.out, if_neg (show ¬ x < 0 by omega), hr])
      simp only [restV, Option.getD_some, Option.isSome_some]
      clear hr HRS
      go_wp2_with fail
      refine (existing_any x a v _ (HT.out.later (by (repeat' (first | (with_reducible exact G.refl _) | (with_reducible assumption) | (with_reducible refine G.drewN ?_ _) | (with_reducible refine G.drew ?_) | (with_reducible refine G.alloc ?_ _) | (with_reducible refine G.setCell ?_ (by first | (with_reducible exact Nat.le_refl _) | (simp; done) | (simp; omega) | omega) _) | (with_reducible refine G.trans ?_ (by assumption)))))).hts).mono ?_
      rintro e w3 ⟨rfl, hG3⟩
      obtain ⟨⟨z0, z1, z2⟩, f0, f1, f2⟩ := trif_later (hG2.trans hG3)
      obtain ⟨k0, k1, k2⟩ := set3 (u := .int .i64 (ey x a v x)) (v := .int .i64 (ey x a v a)) (t := .int .i64 (ey x a v v)) z0 z1 z2
      go_wp2_with fail
      refine bodyPost_ret (v := .tuple #[.agg #[.int .i64 (ey x a v x), .int .i64 (ey x a v a), .int .i64 (ey x a v v)], .int .i64 0, .int .i64 (er x a v)]) (by simp [results, Tryd.results14, go_sem, k0, k1, k2]) rfl ⟨by rw [HR.out]; rfl, ?_⟩
      (repeat' (first | (with_reducible exact G.refl _) | (with_reducible assumption) | (with_reducible refine G.drewN ?_ _) | (with_reducible refine G.drew ?_) | (with_reducible refine G.alloc ?_ _) | (with_reducible refine G.setCell ?_ (by first | (with_reducible exact Nat.le_refl _) | (simp; done) | (simp; omega) | omega) _) | (with_reducible refine G.trans ?_ (by assumption))))

theorem Parse_any (s : ByteArray) (w : World) (hs : s.size ≤ 100) (hT : Tab w) :
    Calls Tryd.prog 14 #[.string s] w fun e w' => e = .returned (parseV (parseF s.data.toList)) ∧ G w w' := by
  cases h : s.data.toList with
  | nil =>
    have e : s = ⟨#[]⟩ := by apply ByteArray.ext; apply Array.toList_inj.1; rw [h]
    rw [e]; exact Parse_nil w
  | cons c r => exact Parse_cons s c r w hs h hT
end Go.Proofs.YtipamoakeccecaaDoor
