import Derived.Test.YtdiokagnpiiijaaDoorCls
import Derived.Test.YtdiokagnpiiijaaDoorShelf
/-! Parse: the key with a name. -/
namespace Go.Proofs.YtdiokagnpiiijaaDoor
open Go.RowKit Go.Shelf
attribute [local go_sem] World.cell?_alloc_some

/-- the variable that the library's search reads -/
def ML (w : World) : Prop := ∃ m, w.cell? ⟨2, 0, none⟩ = some (.int .i64 m)
theorem ML.later {a b : World} (h : ML a) (g : G a b) : ML b := h.imp fun _ k => g.at k

abbrev MAJ : List UInt8 := [109, 97, 106, 111, 114]
abbrev MIN : List UInt8 := [109, 105, 110, 111, 114]
def parT (a b : List UInt8) : Int × Bool × Int :=
  if (clV a).2.2 = true ∧ (b = MAJ ∨ b = MIN) then
    (if ofE (clV a).1 (clV a).2.1 (decide (b = MIN)) = 0 then (ofN (clV a).1 (clV a).2.1 (decide (b = MIN)), decide (b = MIN), 0) else (0, false, 12))
  else (0, false, 12)
def parV (l : List UInt8) : Int × Bool × Int := parT (Lib.cut l [32]).1 (Lib.cut l [32]).2.1
theorem cut_le (l : List UInt8) : (Lib.cut l [32]).1.length ≤ l.length := by
  unfold Lib.cut
  split
  · simp; omega
  · exact Nat.le_refl _

theorem Cut_any (s A B : ByteArray) (w : World) (hs : s.size ≤ 100) (hA : Hid (A = ⟨(Lib.cut s.data.toList [32]).1.toArray⟩)) (hB : Hid (B = ⟨(Lib.cut s.data.toList [32]).2.1.toArray⟩)) (hM : ML w) :
    Calls Tryd.prog 43 #[.string s, .string ⟨#[32]⟩] w fun e w' => (∃ q : Bool, e = .returned (.tuple #[.string A, .string B, .bool q])) ∧ G w w' := by
  obtain ⟨m, hm⟩ := hM
  rw [hA.out, hB.out]
  exact (Tryd.strings_Cut s ⟨#[32]⟩ m w (by omega) hm).mono fun _ _ ⟨he, n, hw⟩ => ⟨⟨_, he⟩, hw ▸ G.drewN (G.refl _) n⟩

set_option maxRecDepth 20000 in
set_option maxHeartbeats 3200000 in
theorem Parse_any (s : ByteArray) (w : World) (hs : s.size ≤ 100) (hT : Tab w) (hM : ML w) :
    Calls Tryd.prog 29 #[.string s] w fun e w' => e = .returned (.tuple #[.int .i64 (parV s.data.toList).1, .bool (parV s.data.toList).2.1, .int .i64 (parV s.data.toList).2.2]) ∧ G w w' := by
  have HT := Lib.hid hT
  have HM := Lib.hid hM
  clear hT hM
  obtain ⟨A, hA⟩ : ∃ z : ByteArray, Hid (z = ⟨(Lib.cut s.data.toList [32]).1.toArray⟩) := ⟨_, rfl⟩
  obtain ⟨B, hB⟩ : ∃ z : ByteArray, Hid (z = ⟨(Lib.cut s.data.toList [32]).2.1.toArray⟩) := ⟨_, rfl⟩
  have hAs : A.size ≤ 100 := by
    have h := cut_le s.data.toList
    have e : A.size = (Lib.cut s.data.toList [32]).1.length := by rw [hA.out]; simp [ByteArray.size]
    have e2 : s.data.toList.length = s.size := by simp
    omega
  have hAl : (Lib.cut s.data.toList [32]).1 = A.data.toList := by rw [hA.out]
  have hBl : (Lib.cut s.data.toList [32]).2.1 = B.data.toList := by rw [hB.out]
  obtain ⟨R, hR⟩ : ∃ z : Value, Hid (z = .tuple #[.int .i64 (parV s.data.toList).1, .bool (parV s.data.toList).2.1, .int .i64 (parV s.data.toList).2.2]) := ⟨_, rfl⟩
  have HV := Lib.hid (show R = .tuple #[.int .i64 (parT A.data.toList B.data.toList).1, .bool (parT A.data.toList B.data.toList).2.1, .int .i64 (parT A.data.toList B.data.toList).2.2] by
    rw [hR.out]; unfold parV; rw [hAl, hBl])
  rw [← hR.out]
  clear hAl hBl
  obtain ⟨st, hst⟩ : ∃ z : Int, Hid (z = (clV A.data.toList).1) := ⟨_, rfl⟩
  obtain ⟨al', hal⟩ : ∃ z : Int, Hid (z = (clV A.data.toList).2.1) := ⟨_, rfl⟩
  obtain ⟨ok, hok⟩ : ∃ z : Bool, Hid (z = (clV A.data.toList).2.2) := ⟨_, rfl⟩
  have HW := Lib.hid (show R = if ok = true ∧ (B.data.toList = MAJ ∨ B.data.toList = MIN) then (if ofE st al' (decide (B.data.toList = MIN)) = 0 then .tuple #[.int .i64 (ofN st al' (decide (B.data.toList = MIN))), .bool (decide (B.data.toList = MIN)), .int .i64 0] else .tuple #[.int .i64 0, .bool false, .int .i64 12]) else .tuple #[.int .i64 0, .bool false, .int .i64 12] by
    rw [HV.out, hst.out, hal.out, hok.out]; unfold parT
    by_cases c : (clV A.data.toList).2.2 = true ∧ (B.data.toList = MAJ ∨ B.data.toList = MIN)
    · rw [if_pos c, if_pos c]
      by_cases d : ofE (clV A.data.toList).1 (clV A.data.toList).2.1 (decide (B.data.toList = MIN)) = 0
      · rw [if_pos d, if_pos d]
      · rw [if_neg d, if_neg d]
    · rw [if_neg c, if_neg c])
  go_enter Tryd.func29, Tryd.ntmps29
  go_wp2_with fail
  refine (Cut_any s A B _ hs hA hB (HM.out.later (by (repeat' (first | (with_reducible exact G.refl _) | (with_reducible assumption) | (with_reducible refine G.drewN ?_ _) | (with_reducible refine G.drew ?_) | (with_reducible refine G.alloc ?_ _) | (with_reducible refine G.setCell ?_ (by first | (with_reducible exact Nat.le_refl _) | (simp; done) | (simp; omega) | omega) _) | (with_reducible refine G.trans ?_ (by assumption))))))).mono ?_
  rintro e w1 ⟨⟨q, rfl⟩, hG1⟩
  go_wp2_with fail
  refine (class_any A _ hAs (HT.out.later (by (repeat' (first | (with_reducible exact G.refl _) | (with_reducible assumption) | (with_reducible refine G.drewN ?_ _) | (with_reducible refine G.drew ?_) | (with_reducible refine G.alloc ?_ _) | (with_reducible refine G.setCell ?_ (by first | (with_reducible exact Nat.le_refl _) | (simp; done) | (simp; omega) | omega) _) | (with_reducible refine G.trans ?_ (by assumption))))))).mono ?_
  rintro e w2 ⟨rfl, hG2⟩
  rw [← hst.out, ← hal.out, ← hok.out]
  cases ok
  · have HR := Lib.hid (show R = .tuple #[.int .i64 0, .bool false, .int .i64 12] by rw [HW.out, if_neg (fun k => by cases k.1)])
    go_wp2_with fail
    go_returns
    refine ⟨?_, by (repeat' (first | (with_reducible exact G.refl _) | (with_reducible assumption) | (with_reducible refine G.drewN ?_ _) | (with_reducible refine G.drew ?_) | (with_reducible refine G.alloc ?_ _) | (with_reducible refine G.setCell ?_ (by first | (with_reducible exact Nat.le_refl _) | (simp; done) | (simp; omega) | omega) _) | (with_reducible refine G.trans ?_ (by assumption))))⟩
    rw [HR.out]; rfl
  · by_cases c1 : B.data.toList = MIN
    · obtain rfl : B = ⟨#[109, 105, 110, 111, 114]⟩ := by apply ByteArray.ext; apply Array.toList_inj.1; rw [c1]
      obtain ⟨X, hX⟩ : ∃ z : Int, Hid (z = ofE st al' true) := ⟨_, rfl⟩
      obtain ⟨N, hN⟩ : ∃ z : Int, Hid (z = ofN st al' true) := ⟨_, rfl⟩
      have HU := Lib.hid (show R = if X = 0 then .tuple #[.int .i64 N, .bool true, .int .i64 0] else .tuple #[.int .i64 0, .bool false, .int .i64 12] by
        rw [HW.out, if_pos ⟨rfl, .inr c1⟩, hX.out, hN.out]
        rfl)
      clear c1
      by_cases d : X = 0
      · have HR := Lib.hid (show R = .tuple #[.int .i64 N, .bool true, .int .i64 0] by rw [HU.out, if_pos d])
        subst d
        go_wp2_with fail
        refine (Of_any st al' true _ (HT.out.later (by (repeat' (first | (with_reducible exact G.refl _) | (with_reducible assumption) | (with_reducible refine G.drewN ?_ _) | (with_reducible refine G.drew ?_) | (with_reducible refine G.alloc ?_ _) | (with_reducible refine G.setCell ?_ (by first | (with_reducible exact Nat.le_refl _) | (simp; done) | (simp; omega) | omega) _) | (with_reducible refine G.trans ?_ (by assumption))))))).mono ?_
        rintro e w3 ⟨rfl, rfl⟩
        rw [← hX.out, ← hN.out]
        go_wp2_with fail
        go_returns
        refine ⟨?_, by (repeat' (first | (with_reducible exact G.refl _) | (with_reducible assumption) | (with_reducible refine G.drewN ?_ _) | (with_reducible refine G.drew ?_) | (with_reducible refine G.alloc ?_ _) | (with_reducible refine G.setCell ?_ (by first | (with_reducible exact Nat.le_refl _) | (simp; done) | (simp; omega) | omega) _) | (with_reducible refine G.trans ?_ (by assumption))))⟩
        rw [HR.out]; rfl
      · have HR := Lib.hid (show R = .tuple #[.int .i64 0, .bool false, .int .i64 12] by rw [HU.out, if_neg d])
        have db : (X == 0) = false := beq_false_of_ne d
        clear d
        go_wp2_with fail
        refine (Of_any st al' true _ (HT.out.later (by (repeat' (first | (with_reducible exact G.refl _) | (with_reducible assumption) | (with_reducible refine G.drewN ?_ _) | (with_reducible refine G.drew ?_) | (with_reducible refine G.alloc ?_ _) | (with_reducible refine G.setCell ?_ (by first | (with_reducible exact Nat.le_refl _) | (simp; done) | (simp; omega) | omega) _) | (with_reducible refine G.trans ?_ (by assumption))))))).mono ?_
        rintro e w3 ⟨rfl, rfl⟩
        rw [← hX.out, ← hN.out]
        go_wp2_with fail
        go_returns
        refine ⟨?_, by (repeat' (first | (with_reducible exact G.refl _) | (with_reducible assumption) | (with_reducible refine G.drewN ?_ _) | (with_reducible refine G.drew ?_) | (with_reducible refine G.alloc ?_ _) | (with_reducible refine G.setCell ?_ (by first | (with_reducible exact Nat.le_refl _) | (simp; done) | (simp; omega) | omega) _) | (with_reducible refine G.trans ?_ (by assumption))))⟩
        rw [HR.out]; rfl
    by_cases c1 : B.data.toList = MAJ
    · obtain rfl : B = ⟨#[109, 97, 106, 111, 114]⟩ := by apply ByteArray.ext; apply Array.toList_inj.1; rw [c1]
      obtain ⟨X, hX⟩ : ∃ z : Int, Hid (z = ofE st al' false) := ⟨_, rfl⟩
      obtain ⟨N, hN⟩ : ∃ z : Int, Hid (z = ofN st al' false) := ⟨_, rfl⟩
      have HU := Lib.hid (show R = if X = 0 then .tuple #[.int .i64 N, .bool false, .int .i64 0] else .tuple #[.int .i64 0, .bool false, .int .i64 12] by
        rw [HW.out, if_pos ⟨rfl, .inl c1⟩, hX.out, hN.out]
        rfl)
      clear c1
      by_cases d : X = 0
      · have HR := Lib.hid (show R = .tuple #[.int .i64 N, .bool false, .int .i64 0] by rw [HU.out, if_pos d])
        subst d
        go_wp2_with fail
        refine (Of_any st al' false _ (HT.out.later (by (repeat' (first | (with_reducible exact G.refl _) | (with_reducible assumption) | (with_reducible refine G.drewN ?_ _) | (with_reducible refine G.drew ?_) | (with_reducible refine G.alloc ?_ _) | (with_reducible refine G.setCell ?_ (by first | (with_reducible exact Nat.le_refl _) | (simp; done) | (simp; omega) | omega) _) | (with_reducible refine G.trans ?_ (by assumption))))))).mono ?_
        rintro e w3 ⟨rfl, rfl⟩
        rw [← hX.out, ← hN.out]
        go_wp2_with fail
        go_returns
        refine ⟨?_, by (repeat' (first | (with_reducible exact G.refl _) | (with_reducible assumption) | (with_reducible refine G.drewN ?_ _) | (with_reducible refine G.drew ?_) | (with_reducible refine G.alloc ?_ _) | (with_reducible refine G.setCell ?_ (by first | (with_reducible exact Nat.le_refl _) | (simp; done) | (simp; omega) | omega) _) | (with_reducible refine G.trans ?_ (by assumption))))⟩
        rw [HR.out]; rfl
      · have HR := Lib.hid (show R = .tuple #[.int .i64 0, .bool false, .int .i64 12] by rw [HU.out, if_neg d])
        have db : (X == 0) = false := beq_false_of_ne d
        clear d
        go_wp2_with fail
        refine (Of_any st al' false _ (HT.out.later (by (repeat' (first | (with_reducible exact G.refl _) | (with_reducible assumption) | (with_reducible refine G.drewN ?_ _) | (with_reducible refine G.drew ?_) | (with_reducible refine G.alloc ?_ _) | (with_reducible refine G.setCell ?_ (by first | (with_reducible exact Nat.le_refl _) | (simp; done) | (simp; omega) | omega) _) | (with_reducible refine G.trans ?_ (by assumption))))))).mono ?_
        rintro e w3 ⟨rfl, rfl⟩
        rw [← hX.out, ← hN.out]
        go_wp2_with fail
        go_returns
        refine ⟨?_, by (repeat' (first | (with_reducible exact G.refl _) | (with_reducible assumption) | (with_reducible refine G.drewN ?_ _) | (with_reducible refine G.drew ?_) | (with_reducible refine G.alloc ?_ _) | (with_reducible refine G.setCell ?_ (by first | (with_reducible exact Nat.le_refl _) | (simp; done) | (simp; omega) | omega) _) | (with_reducible refine G.trans ?_ (by assumption))))⟩
        rw [HR.out]; rfl
    · rename_i c2
      have HR := Lib.hid (show R = .tuple #[.int .i64 0, .bool false, .int .i64 12] by rw [HW.out, if_neg (fun k => k.2.elim c1 c2)])
      have x1 : (B.toList == MAJ) = false := by rw [toList_data]; exact beq_false_of_ne c1
      have x2 : (B.toList == MIN) = false := by rw [toList_data]; exact beq_false_of_ne c2
      have x3 : (B.toList == (⟨#[109, 97, 106, 111, 114]⟩ : ByteArray).toList) = false := by rw [toList_data, toList_data]; exact beq_false_of_ne c1
      have x4 : (B.toList == (⟨#[109, 105, 110, 111, 114]⟩ : ByteArray).toList) = false := by rw [toList_data, toList_data]; exact beq_false_of_ne c2
      clear c1 c2
      go_wp2_with fail
      go_returns
      refine ⟨?_, by (repeat' (first | (with_reducible exact G.refl _) | (with_reducible assumption) | (with_reducible refine G.drewN ?_ _) | (with_reducible refine G.drew ?_) | (with_reducible refine G.alloc ?_ _) | (with_reducible refine G.setCell ?_ (by first | (with_reducible exact Nat.le_refl _) | (simp; done) | (simp; omega) | omega) _) | (with_reducible refine G.trans ?_ (by assumption))))⟩
      rw [HR.out]; rfl
end Go.Proofs.YtdiokagnpiiijaaDoor
