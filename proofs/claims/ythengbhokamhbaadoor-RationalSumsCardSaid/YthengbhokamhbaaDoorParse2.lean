import Derived.Test.YthengbhokamhbaaDoorParse
/-! Parse of the program. -/
namespace Go.Proofs.YthengbhokamhbaaDoor
open Go.RowKit QM QP

/-- the fraction of a text (numerator, denominator less 1), or the offset and the error -/
def parseOut (s : List UInt8) : Int × Int × Nat × Nat :=
  if (quot s).2.2.2 ≠ 0 then (0, 0, (quot s).2.2.1, (quot s).2.2.2)
  else if oE (quot s).1 (quot s).2.1 ≠ 0 ∨ txt (oN (quot s).1 (quot s).2.1) (oD (quot s).1 (quot s).2.1 - 1) ≠ s then (0, 0, 0, 3)
  else (oN (quot s).1 (quot s).2.1, oD (quot s).1 (quot s).2.1 - 1, 0, 0)

def ParseIs (s : List UInt8) (e : Ending) : Prop := e = .returned (.tuple #[.agg #[.int .i64 (parseOut s).1, .int .i64 (parseOut s).2.1], .int .i64 ((parseOut s).2.2.1 : Nat), .int .i64 ((parseOut s).2.2.2 : Nat)])
theorem parseIs_of {s : List UInt8} {a b c d : Int} {x y : Nat} (h : parseOut s = (a, b, x, y)) (h1 : c = x) (h2 : d = y) : ParseIs s (.returned (.tuple #[.agg #[.int .i64 a, .int .i64 b], .int .i64 c, .int .i64 d])) := by
  unfold ParseIs; rw [h, h1, h2]

theorem toList_is (s : ByteArray) : s.toList = s.data.toList := by
  first | exact Go.toList_data s | exact Go.Lib.toList_data s | exact toList_data s

set_option maxRecDepth 20000 in
set_option maxHeartbeats 400000 in
theorem Parse_any (s : ByteArray) (w : World) (h2 : s.size ≤ 1000000) (hT : Tab w) :
    Calls Tryd.prog 13 #[.string s] w fun e w' => ParseIs s.data.toList e ∧ G w w' := by
  have qs := quot_small s.data.toList
  obtain ⟨N, D, t, e, hQ⟩ : ∃ (N D : Int) (t e : Nat), quot s.data.toList = (N, D, t, e) := ⟨_, _, _, _, rfl⟩
  have HT := Lib.hid hT
  clear hT
  go_enter Tryd.func13, Tryd.ntmps13
  go_wp2_with fail
  refine (quotient_any s _ h2).mono ?_
  rintro e1 w1 ⟨he, rfl⟩
  unfold QuotIs at he
  rw [hQ] at he qs
  subst he
  obtain ⟨q1, q2, q3, q4⟩ := qs
  simp only [] at q1 q2 q3 q4
  by_cases hz : e = 0
  · subst hz
    have P : parseOut s.data.toList = if oE N D ≠ 0 ∨ txt (oN N D) (oD N D - 1) ≠ s.data.toList then (0, 0, 0, 3) else (oN N D, oD N D - 1, 0, 0) := by
      unfold parseOut; rw [hQ]; simp
    have HP := Lib.hid P
    clear P hQ
    go_wp2_with fail
    refine (Of_any _ _ _ (by omega) (by omega) (by omega) (by omega)).mono ?_
    rintro e1 w1 ⟨rfl, hG1⟩
    obtain ⟨y1, y2, y3, y4, y5⟩ := one_cells hG1
    have hC := cn_of N D
    by_cases hE : oE N D = 0
    · have hE1 : (oE N D == 0) = true := by rw [hE]; rfl
      rw [hE]
      have HE := Lib.hid hE
      clear hE hE1
      go_wp2_with fail
      refine (Text_any _ _ _ hC (HT.out.later (by (repeat' (first | (with_reducible exact G.refl _) | (with_reducible assumption) | (with_reducible refine G.drewN ?_ _) | (with_reducible refine G.drew ?_) | (with_reducible refine G.alloc ?_ _) | (with_reducible refine G.setCell ?_ (by first | (with_reducible exact Nat.le_refl _) | (simp; done) | (simp; omega) | omega) _) | (with_reducible refine G.trans ?_ (by assumption))))))).mono ?_
      rintro e1 w2 ⟨rfl, hG2⟩
      have hsz : w.heap.size < ((w1.setCell ⟨w.heap.size, 0, none⟩ (.int .i64 (oN N D))).setCell ⟨w.heap.size, 1, none⟩ (.int .i64 (oD N D - 1))).heap.size := by simpa using y5
      have z1 : w2.cell? ⟨w.heap.size, 0, none⟩ = some (.int .i64 (oN N D)) := (hG2.cell (by exact hsz)).trans (by simp [go_sem, y1])
      have z2 : w2.cell? ⟨w.heap.size, 1, none⟩ = some (.int .i64 (oD N D - 1)) := (hG2.cell (by exact hsz)).trans (by simp [go_sem, y2])
      have z3 : w2.frozen? ⟨w.heap.size, 0, none⟩ = false := (hG2.frozen (by exact hsz)).trans (by simp [go_sem, y3])
      have z4 : w2.frozen? ⟨w.heap.size, 1, none⟩ = false := (hG2.frozen (by exact hsz)).trans (by simp [go_sem, y4])
      have gw : G w w2 := by (repeat' (first | (with_reducible exact G.refl _) | (with_reducible assumption) | (with_reducible refine G.drewN ?_ _) | (with_reducible refine G.drew ?_) | (with_reducible refine G.alloc ?_ _) | (with_reducible refine G.setCell ?_ (by first | (with_reducible exact Nat.le_refl _) | (simp; done) | (simp; omega) | omega) _) | (with_reducible refine G.trans ?_ (by assumption))))
      clear y1 y2 y3 y4 y5 hG1 hG2 hsz
      by_cases hx : txt (oN N D) (oD N D - 1) = s.data.toList
      · have P2 : parseOut s.data.toList = (oN N D, oD N D - 1, 0, 0) := by rw [HP.out, if_neg (by simp [HE.out, hx])]
        have HP2 := Lib.hid P2
        clear P2
        have HX := Lib.hid hx
        clear hx
        have hq : (txt (oN N D) (oD N D - 1) == s.toList) = true := by rw [toList_is, HX.out]; simp
        go_wp2
        refine bodyPost_ret (v := .tuple #[.agg #[.int .i64 (oN N D), .int .i64 (oD N D - 1)], .int .i64 0, .int .i64 0]) (by simp [results, Tryd.results13, go_sem, z1, z2]) rfl ⟨parseIs_of HP2.out rfl rfl, ?_⟩
        (repeat' (first | (with_reducible exact G.refl _) | (with_reducible assumption) | (with_reducible refine G.drewN ?_ _) | (with_reducible refine G.drew ?_) | (with_reducible refine G.alloc ?_ _) | (with_reducible refine G.setCell ?_ (by first | (with_reducible exact Nat.le_refl _) | (simp; done) | (simp; omega) | omega) _) | (with_reducible refine G.trans ?_ (by assumption))))
      · have P2 : parseOut s.data.toList = (0, 0, 0, 3) := by rw [HP.out, if_pos (Or.inr hx)]
        have HP2 := Lib.hid P2
        clear P2
        have hq : (txt (oN N D) (oD N D - 1) == s.toList) = false := by rw [toList_is]; simpa using hx
        clear hx
        go_wp2
        refine bodyPost_ret (v := .tuple #[.agg #[.int .i64 0, .int .i64 0], .int .i64 0, .int .i64 3]) (by simp [results, Tryd.results13, go_sem, z1, z2]) rfl ⟨parseIs_of HP2.out rfl rfl, ?_⟩
        (repeat' (first | (with_reducible exact G.refl _) | (with_reducible assumption) | (with_reducible refine G.drewN ?_ _) | (with_reducible refine G.drew ?_) | (with_reducible refine G.alloc ?_ _) | (with_reducible refine G.setCell ?_ (by first | (with_reducible exact Nat.le_refl _) | (simp; done) | (simp; omega) | omega) _) | (with_reducible refine G.trans ?_ (by assumption))))
    · have hE1 : (oE N D == 0) = false := by simpa using hE
      have P2 : parseOut s.data.toList = (0, 0, 0, 3) := by rw [HP.out, if_pos (Or.inl hE)]
      have HP2 := Lib.hid P2
      clear P2
      generalize oE N D = E at *
      generalize oN N D = N1 at *
      generalize oD N D - 1 = O1 at *
      clear HP
      have k1 : ((w1.setCell ⟨w.heap.size, 0, none⟩ (.int .i64 N1)).setCell ⟨w.heap.size, 1, none⟩ (.int .i64 O1)).cell? ⟨w.heap.size, 0, none⟩ = some (.int .i64 N1) := by simp [go_sem, y1]
      have k2 : ((w1.setCell ⟨w.heap.size, 0, none⟩ (.int .i64 N1)).setCell ⟨w.heap.size, 1, none⟩ (.int .i64 O1)).cell? ⟨w.heap.size, 1, none⟩ = some (.int .i64 O1) := by simp [go_sem, y2]
      have k3 : ((w1.setCell ⟨w.heap.size, 0, none⟩ (.int .i64 N1)).setCell ⟨w.heap.size, 1, none⟩ (.int .i64 O1)).frozen? ⟨w.heap.size, 0, none⟩ = false := by simp [go_sem, y3]
      have k4 : ((w1.setCell ⟨w.heap.size, 0, none⟩ (.int .i64 N1)).setCell ⟨w.heap.size, 1, none⟩ (.int .i64 O1)).frozen? ⟨w.heap.size, 1, none⟩ = false := by simp [go_sem, y4]
      go_wp2
      have gq : G w ((w1.setCell ⟨w.heap.size, 0, none⟩ (.int .i64 N1)).setCell ⟨w.heap.size, 1, none⟩ (.int .i64 O1)) := by (repeat' (first | (with_reducible exact G.refl _) | (with_reducible assumption) | (with_reducible refine G.drewN ?_ _) | (with_reducible refine G.drew ?_) | (with_reducible refine G.alloc ?_ _) | (with_reducible refine G.setCell ?_ (by first | (with_reducible exact Nat.le_refl _) | (simp; done) | (simp; omega) | omega) _) | (with_reducible refine G.trans ?_ (by assumption))))
      generalize (w1.setCell ⟨w.heap.size, 0, none⟩ (.int .i64 N1)).setCell ⟨w.heap.size, 1, none⟩ (.int .i64 O1) = w9 at *
      refine bodyPost_ret (v := .tuple #[.agg #[.int .i64 0, .int .i64 0], .int .i64 0, .int .i64 3]) (by simp [results, Tryd.results13, go_sem, k1, k2]) rfl ⟨parseIs_of HP2.out rfl rfl, ?_⟩
      (repeat' (first | (with_reducible exact G.refl _) | (with_reducible assumption) | (with_reducible refine G.drewN ?_ _) | (with_reducible refine G.drew ?_) | (with_reducible refine G.alloc ?_ _) | (with_reducible refine G.setCell ?_ (by first | (with_reducible exact Nat.le_refl _) | (simp; done) | (simp; omega) | omega) _) | (with_reducible refine G.trans ?_ (by assumption))))
  · have hz1 : ((e : Int) == 0) = false := by simp; omega
    have P : parseOut s.data.toList = (0, 0, t, e) := by unfold parseOut; rw [hQ]; simp [hz]
    have HP := Lib.hid P
    clear P hQ
    go_wp2
    refine bodyPost_ret (v := .tuple #[.agg #[.int .i64 0, .int .i64 0], .int .i64 t, .int .i64 e]) (by simp [results, Tryd.results13, go_sem]) rfl ⟨parseIs_of HP.out rfl rfl, ?_⟩
    (repeat' (first | (with_reducible exact G.refl _) | (with_reducible assumption) | (with_reducible refine G.drewN ?_ _) | (with_reducible refine G.drew ?_) | (with_reducible refine G.alloc ?_ _) | (with_reducible refine G.setCell ?_ (by first | (with_reducible exact Nat.le_refl _) | (simp; done) | (simp; omega) | omega) _) | (with_reducible refine G.trans ?_ (by assumption))))
end Go.Proofs.YthengbhokamhbaaDoor
