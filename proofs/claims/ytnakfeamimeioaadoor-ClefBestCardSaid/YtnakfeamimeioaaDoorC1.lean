import Derived.Test.YtnakfeamimeioaaDoorOf
import Derived.Test.YtnakfeamimeioaaDoorLst
/-! Clefs: Check, designOf, Position, At, place. -/
namespace Go.Proofs.YtnakfeamimeioaaDoor
open Go.RowKit
attribute [local go_sem] World.cell?_alloc_some

/-- there is such a clef; its name, letter, line, octaves, middle, and where sharps and flats begin -/
def Cf (c : Int) : Prop := 1 ≤ c ∧ c ≤ 9
instance (c : Int) : Decidable (Cf c) := by unfold Cf; infer_instance
def nmL : List (List UInt8) := [[116, 114, 101, 98, 108, 101], [98, 97, 115, 115], [97, 108, 116, 111], [116, 101, 110, 111, 114], [115, 111, 112, 114, 97, 110, 111], [109, 101, 122, 122, 111, 115, 111, 112, 114, 97, 110, 111], [98, 97, 114, 105, 116, 111, 110, 101], [116, 114, 101, 98, 108, 101, 56], [98, 97, 115, 115, 56]]
def nm (c : Int) : ByteArray := ⟨(nmL.getD (c - 1).toNat []).toArray⟩
def lt (c : Int) : Int := if c = 1 then 71 else if c = 2 then 70 else if c = 3 then 67 else if c = 4 then 67 else if c = 5 then 67 else if c = 6 then 67 else if c = 7 then 70 else if c = 8 then 71 else 70
def li (c : Int) : Int := if c = 1 then (-2) else if c = 2 then 2 else if c = 3 then 0 else if c = 4 then 2 else if c = 5 then (-4) else if c = 6 then (-2) else if c = 7 then 0 else if c = 8 then (-2) else 2
def oc (c : Int) : Int := if c = 1 then 0 else if c = 2 then 0 else if c = 3 then 0 else if c = 4 then 0 else if c = 5 then 0 else if c = 6 then 0 else if c = 7 then 0 else if c = 8 then (-1) else (-1)
def mid (c : Int) : Int := if c = 1 then 34 else if c = 2 then 22 else if c = 3 then 28 else if c = 4 then 26 else if c = 5 then 32 else if c = 6 then 30 else if c = 7 then 24 else if c = 8 then 27 else 15
def shp (c : Int) : Int := if c = 1 then (-1) else if c = 2 then (-3) else if c = 3 then (-2) else if c = 4 then (-2) else if c = 5 then (-2) else if c = 6 then (-2) else if c = 7 then (-2) else if c = 8 then (-1) else (-3)
def flt (c : Int) : Int := if c = 1 then (-3) else if c = 2 then (-5) else if c = 3 then (-4) else if c = 4 then (-2) else if c = 5 then (-3) else if c = 6 then (-3) else if c = 7 then (-3) else if c = 8 then (-3) else (-5)
theorem cfs {c : Int} (h : Cf c) : c = 1 ∨ c = 2 ∨ c = 3 ∨ c = 4 ∨ c = 5 ∨ c = 6 ∨ c = 7 ∨ c = 8 ∨ c = 9 := by unfold Cf at h; omega
theorem mid_bd (c : Int) : 15 ≤ mid c ∧ mid c ≤ 34 := by unfold mid; repeat' split
                                                         all_goals omega
theorem shp_bd (c : Int) : -3 ≤ shp c ∧ shp c ≤ -1 := by unfold shp; repeat' split
                                                         all_goals omega
theorem flt_bd (c : Int) : -5 ≤ flt c ∧ flt c ≤ -2 := by unfold flt; repeat' split
                                                         all_goals omega
/-- the program's table of clefs -/
structure Dsn (w : World) : Prop where
  d1 : w.cell? ⟨1, 0, none⟩ = some (.string ⟨#[116, 114, 101, 98, 108, 101]⟩) ∧ w.cell? ⟨1, 1, none⟩ = some (.int .u8 71) ∧ w.cell? ⟨1, 2, none⟩ = some (.int .i64 (-2)) ∧ w.cell? ⟨1, 3, none⟩ = some (.int .i64 0) ∧ w.cell? ⟨1, 4, none⟩ = some (.int .i64 34) ∧ w.cell? ⟨1, 5, none⟩ = some (.int .i64 (-1)) ∧ w.cell? ⟨1, 6, none⟩ = some (.int .i64 (-3))
  d2 : w.cell? ⟨1, 7, none⟩ = some (.string ⟨#[98, 97, 115, 115]⟩) ∧ w.cell? ⟨1, 8, none⟩ = some (.int .u8 70) ∧ w.cell? ⟨1, 9, none⟩ = some (.int .i64 2) ∧ w.cell? ⟨1, 10, none⟩ = some (.int .i64 0) ∧ w.cell? ⟨1, 11, none⟩ = some (.int .i64 22) ∧ w.cell? ⟨1, 12, none⟩ = some (.int .i64 (-3)) ∧ w.cell? ⟨1, 13, none⟩ = some (.int .i64 (-5))
  d3 : w.cell? ⟨1, 14, none⟩ = some (.string ⟨#[97, 108, 116, 111]⟩) ∧ w.cell? ⟨1, 15, none⟩ = some (.int .u8 67) ∧ w.cell? ⟨1, 16, none⟩ = some (.int .i64 0) ∧ w.cell? ⟨1, 17, none⟩ = some (.int .i64 0) ∧ w.cell? ⟨1, 18, none⟩ = some (.int .i64 28) ∧ w.cell? ⟨1, 19, none⟩ = some (.int .i64 (-2)) ∧ w.cell? ⟨1, 20, none⟩ = some (.int .i64 (-4))
  d4 : w.cell? ⟨1, 21, none⟩ = some (.string ⟨#[116, 101, 110, 111, 114]⟩) ∧ w.cell? ⟨1, 22, none⟩ = some (.int .u8 67) ∧ w.cell? ⟨1, 23, none⟩ = some (.int .i64 2) ∧ w.cell? ⟨1, 24, none⟩ = some (.int .i64 0) ∧ w.cell? ⟨1, 25, none⟩ = some (.int .i64 26) ∧ w.cell? ⟨1, 26, none⟩ = some (.int .i64 (-2)) ∧ w.cell? ⟨1, 27, none⟩ = some (.int .i64 (-2))
  d5 : w.cell? ⟨1, 28, none⟩ = some (.string ⟨#[115, 111, 112, 114, 97, 110, 111]⟩) ∧ w.cell? ⟨1, 29, none⟩ = some (.int .u8 67) ∧ w.cell? ⟨1, 30, none⟩ = some (.int .i64 (-4)) ∧ w.cell? ⟨1, 31, none⟩ = some (.int .i64 0) ∧ w.cell? ⟨1, 32, none⟩ = some (.int .i64 32) ∧ w.cell? ⟨1, 33, none⟩ = some (.int .i64 (-2)) ∧ w.cell? ⟨1, 34, none⟩ = some (.int .i64 (-3))
  d6 : w.cell? ⟨1, 35, none⟩ = some (.string ⟨#[109, 101, 122, 122, 111, 115, 111, 112, 114, 97, 110, 111]⟩) ∧ w.cell? ⟨1, 36, none⟩ = some (.int .u8 67) ∧ w.cell? ⟨1, 37, none⟩ = some (.int .i64 (-2)) ∧ w.cell? ⟨1, 38, none⟩ = some (.int .i64 0) ∧ w.cell? ⟨1, 39, none⟩ = some (.int .i64 30) ∧ w.cell? ⟨1, 40, none⟩ = some (.int .i64 (-2)) ∧ w.cell? ⟨1, 41, none⟩ = some (.int .i64 (-3))
  d7 : w.cell? ⟨1, 42, none⟩ = some (.string ⟨#[98, 97, 114, 105, 116, 111, 110, 101]⟩) ∧ w.cell? ⟨1, 43, none⟩ = some (.int .u8 70) ∧ w.cell? ⟨1, 44, none⟩ = some (.int .i64 0) ∧ w.cell? ⟨1, 45, none⟩ = some (.int .i64 0) ∧ w.cell? ⟨1, 46, none⟩ = some (.int .i64 24) ∧ w.cell? ⟨1, 47, none⟩ = some (.int .i64 (-2)) ∧ w.cell? ⟨1, 48, none⟩ = some (.int .i64 (-3))
  d8 : w.cell? ⟨1, 49, none⟩ = some (.string ⟨#[116, 114, 101, 98, 108, 101, 56]⟩) ∧ w.cell? ⟨1, 50, none⟩ = some (.int .u8 71) ∧ w.cell? ⟨1, 51, none⟩ = some (.int .i64 (-2)) ∧ w.cell? ⟨1, 52, none⟩ = some (.int .i64 (-1)) ∧ w.cell? ⟨1, 53, none⟩ = some (.int .i64 27) ∧ w.cell? ⟨1, 54, none⟩ = some (.int .i64 (-1)) ∧ w.cell? ⟨1, 55, none⟩ = some (.int .i64 (-3))
  d9 : w.cell? ⟨1, 56, none⟩ = some (.string ⟨#[98, 97, 115, 115, 56]⟩) ∧ w.cell? ⟨1, 57, none⟩ = some (.int .u8 70) ∧ w.cell? ⟨1, 58, none⟩ = some (.int .i64 2) ∧ w.cell? ⟨1, 59, none⟩ = some (.int .i64 (-1)) ∧ w.cell? ⟨1, 60, none⟩ = some (.int .i64 15) ∧ w.cell? ⟨1, 61, none⟩ = some (.int .i64 (-3)) ∧ w.cell? ⟨1, 62, none⟩ = some (.int .i64 (-5))
theorem Dsn.later {a b : World} (h : Dsn a) (g : G a b) : Dsn b := by
  refine ⟨?_, ?_, ?_, ?_, ?_, ?_, ?_, ?_, ?_⟩
  · obtain ⟨x0, x1, x2, x3, x4, x5, x6⟩ := h.d1
    exact ⟨g.at x0, g.at x1, g.at x2, g.at x3, g.at x4, g.at x5, g.at x6⟩
  · obtain ⟨x0, x1, x2, x3, x4, x5, x6⟩ := h.d2
    exact ⟨g.at x0, g.at x1, g.at x2, g.at x3, g.at x4, g.at x5, g.at x6⟩
  · obtain ⟨x0, x1, x2, x3, x4, x5, x6⟩ := h.d3
    exact ⟨g.at x0, g.at x1, g.at x2, g.at x3, g.at x4, g.at x5, g.at x6⟩
  · obtain ⟨x0, x1, x2, x3, x4, x5, x6⟩ := h.d4
    exact ⟨g.at x0, g.at x1, g.at x2, g.at x3, g.at x4, g.at x5, g.at x6⟩
  · obtain ⟨x0, x1, x2, x3, x4, x5, x6⟩ := h.d5
    exact ⟨g.at x0, g.at x1, g.at x2, g.at x3, g.at x4, g.at x5, g.at x6⟩
  · obtain ⟨x0, x1, x2, x3, x4, x5, x6⟩ := h.d6
    exact ⟨g.at x0, g.at x1, g.at x2, g.at x3, g.at x4, g.at x5, g.at x6⟩
  · obtain ⟨x0, x1, x2, x3, x4, x5, x6⟩ := h.d7
    exact ⟨g.at x0, g.at x1, g.at x2, g.at x3, g.at x4, g.at x5, g.at x6⟩
  · obtain ⟨x0, x1, x2, x3, x4, x5, x6⟩ := h.d8
    exact ⟨g.at x0, g.at x1, g.at x2, g.at x3, g.at x4, g.at x5, g.at x6⟩
  · obtain ⟨x0, x1, x2, x3, x4, x5, x6⟩ := h.d9
    exact ⟨g.at x0, g.at x1, g.at x2, g.at x3, g.at x4, g.at x5, g.at x6⟩
/-- the program's order of sharps -/
def sh (k : Int) : Int := if k = 0 then 3 else if k = 1 then 0 else if k = 2 then 4 else if k = 3 then 1 else if k = 4 then 5 else if k = 5 then 2 else 6
def Ord (w : World) : Prop := w.cell? ⟨0, 0, none⟩ = some (.int .i64 3) ∧ w.cell? ⟨0, 1, none⟩ = some (.int .i64 0) ∧ w.cell? ⟨0, 2, none⟩ = some (.int .i64 4) ∧ w.cell? ⟨0, 3, none⟩ = some (.int .i64 1) ∧ w.cell? ⟨0, 4, none⟩ = some (.int .i64 5) ∧ w.cell? ⟨0, 5, none⟩ = some (.int .i64 2) ∧ w.cell? ⟨0, 6, none⟩ = some (.int .i64 6)
theorem Ord.later {a b : World} (h : Ord a) (g : G a b) : Ord b := by
  obtain ⟨x0, x1, x2, x3, x4, x5, x6⟩ := h
  exact ⟨g.at x0, g.at x1, g.at x2, g.at x3, g.at x4, g.at x5, g.at x6⟩
theorem Ord.cell {w : World} (h : Ord w) (k : Nat) (hk : k ≤ 6) : w.cell? ⟨0, k, none⟩ = some (.int .i64 (sh k)) := by
  obtain ⟨x0, x1, x2, x3, x4, x5, x6⟩ := h
  have hc : k = 0 ∨ k = 1 ∨ k = 2 ∨ k = 3 ∨ k = 4 ∨ k = 5 ∨ k = 6 := by omega
  rcases hc with rfl | rfl | rfl | rfl | rfl | rfl | rfl <;> assumption
structure Tab (w : World) : Prop where
  hts : Hts w
  dsn : Dsn w
  ord : Ord w
theorem Tab.later {a b : World} (h : Tab a) (g : G a b) : Tab b := ⟨h.hts.later g, h.dsn.later g, h.ord.later g⟩

def ck (c : Int) : Int := if Cf c then 0 else 11
theorem ck_ok {c : Int} (h : Cf c) : ck c = 0 := if_pos h
theorem ck_bad {c : Int} (h : ¬ Cf c) : ck c = 11 := if_neg h
set_option maxHeartbeats 800000 in
theorem cCheck_any (c : Int) (w : World) : Calls Tryd.prog 15 #[.int .i64 c] w fun e w' => e = .returned (.int .i64 (ck c)) ∧ w = w' := by
  by_cases h : c < 1
  · rw [ck_bad (fun k => by unfold Cf at k; omega)]
    go_enter Tryd.func15, Tryd.ntmps15
    go_wp2_with fail
    go_ret
    exact ⟨rfl, rfl⟩
  by_cases h2 : 9 < c
  · rw [ck_bad (fun k => by unfold Cf at k; omega)]
    go_enter Tryd.func15, Tryd.ntmps15
    go_wp2_with fail
    go_ret
    exact ⟨rfl, rfl⟩
  · rw [ck_ok (by unfold Cf; omega)]
    go_enter Tryd.func15, Tryd.ntmps15
    go_wp2_with fail
    go_ret
    exact ⟨rfl, rfl⟩

set_option maxRecDepth 20000 in
set_option maxHeartbeats 1600000 in
theorem designOf_bad (c : Int) (w : World) (h : ¬ Cf c) :
    Calls Tryd.prog 33 #[.int .i64 c] w fun e w' => e = .returned (.tuple #[.agg #[.string ⟨#[]⟩, .int .u8 0, .int .i64 0, .int .i64 0, .int .i64 0, .int .i64 0, .int .i64 0], .int .i64 11]) ∧ G w w' := by
  have HC := Lib.hid h
  clear h
  go_enter Tryd.func33, Tryd.ntmps33
  go_wp2_with fail
  refine (cCheck_any c _).mono ?_
  rintro e w1 ⟨rfl, rfl⟩
  rw [ck_bad HC.out]
  go_wp2_with fail
  refine bodyPost_ret (v := .tuple #[.agg #[.string ⟨#[]⟩, .int .u8 0, .int .i64 0, .int .i64 0, .int .i64 0, .int .i64 0, .int .i64 0], .int .i64 11]) (by simp only [results, Tryd.results33]; go_simp) rfl ⟨rfl, ?_⟩
  (repeat' (first | (with_reducible exact G.refl _) | (with_reducible assumption) | (with_reducible refine G.drewN ?_ _) | (with_reducible refine G.drew ?_) | (with_reducible refine G.alloc ?_ _) | (with_reducible refine G.setCell ?_ (by first | (with_reducible exact Nat.le_refl _) | (simp; done) | (simp; omega) | omega) _) | (with_reducible refine G.trans ?_ (by assumption))))

set_option maxRecDepth 20000 in
set_option maxHeartbeats 6400000 in
theorem designOf_ok (c : Int) (w : World) (h : Cf c) (hT : Dsn w) :
    Calls Tryd.prog 33 #[.int .i64 c] w fun e w' => e = .returned (.tuple #[.agg #[.string (nm c), .int .u8 (lt c), .int .i64 (li c), .int .i64 (oc c), .int .i64 (mid c), .int .i64 (shp c), .int .i64 (flt c)], .int .i64 0]) ∧ G w w' := by
  have HC := Lib.hid h
  have HT := Lib.hid hT
  have h9 := cfs h
  clear h hT
  rcases h9 with rfl | rfl | rfl | rfl | rfl | rfl | rfl | rfl | rfl
  · obtain ⟨x0, x1, x2, x3, x4, x5, x6⟩ := HT.out.d1
    clear HT
    go_enter Tryd.func33, Tryd.ntmps33
    go_wp2_with fail
    refine (cCheck_any _ _).mono ?_
    rintro e w1 ⟨rfl, rfl⟩
    rw [ck_ok HC.out]
    go_wp2_with fail
    refine bodyPost_ret (v := .tuple #[.agg #[.string ⟨#[116, 114, 101, 98, 108, 101]⟩, .int .u8 71, .int .i64 (-2), .int .i64 0, .int .i64 34, .int .i64 (-1), .int .i64 (-3)], .int .i64 0]) (by simp only [results, Tryd.results33]; go_simp) rfl ⟨rfl, ?_⟩
    (repeat' (first | (with_reducible exact G.refl _) | (with_reducible assumption) | (with_reducible refine G.drewN ?_ _) | (with_reducible refine G.drew ?_) | (with_reducible refine G.alloc ?_ _) | (with_reducible refine G.setCell ?_ (by first | (with_reducible exact Nat.le_refl _) | (simp; done) | (simp; omega) | omega) _) | (with_reducible refine G.trans ?_ (by assumption))))
  · obtain ⟨x0, x1, x2, x3, x4, x5, x6⟩ := HT.out.d2
    clear HT
    go_enter Tryd.func33, Tryd.ntmps33
    go_wp2_with fail
    refine (cCheck_any _ _).mono ?_
    rintro e w1 ⟨rfl, rfl⟩
    rw [ck_ok HC.out]
    go_wp2_with fail
    refine bodyPost_ret (v := .tuple #[.agg #[.string ⟨#[98, 97, 115, 115]⟩, .int .u8 70, .int .i64 2, .int .i64 0, .int .i64 22, .int .i64 (-3), .int .i64 (-5)], .int .i64 0]) (by simp only [results, Tryd.results33]; go_simp) rfl ⟨rfl, ?_⟩
    (repeat' (first | (with_reducible exact G.refl _) | (with_reducible assumption) | (with_reducible refine G.drewN ?_ _) | (with_reducible refine G.drew ?_) | (with_reducible refine G.alloc ?_ _) | (with_reducible refine G.setCell ?_ (by first | (with_reducible exact Nat.le_refl _) | (simp; done) | (simp; omega) | omega) _) | (with_reducible refine G.trans ?_ (by assumption))))
  · obtain ⟨x0, x1, x2, x3, x4, x5, x6⟩ := HT.out.d3
    clear HT
    go_enter Tryd.func33, Tryd.ntmps33
    go_wp2_with fail
    refine (cCheck_any _ _).mono ?_
    rintro e w1 ⟨rfl, rfl⟩
    rw [ck_ok HC.out]
    go_wp2_with fail
    refine bodyPost_ret (v := .tuple #[.agg #[.string ⟨#[97, 108, 116, 111]⟩, .int .u8 67, .int .i64 0, .int .i64 0, .int .i64 28, .int .i64 (-2), .int .i64 (-4)], .int .i64 0]) (by simp only [results, Tryd.results33]; go_simp) rfl ⟨rfl, ?_⟩
    (repeat' (first | (with_reducible exact G.refl _) | (with_reducible assumption) | (with_reducible refine G.drewN ?_ _) | (with_reducible refine G.drew ?_) | (with_reducible refine G.alloc ?_ _) | (with_reducible refine G.setCell ?_ (by first | (with_reducible exact Nat.le_refl _) | (simp; done) | (simp; omega) | omega) _) | (with_reducible refine G.trans ?_ (by assumption))))
  · obtain ⟨x0, x1, x2, x3, x4, x5, x6⟩ := HT.out.d4
    clear HT
    go_enter Tryd.func33, Tryd.ntmps33
    go_wp2_with fail
    refine (cCheck_any _ _).mono ?_
    rintro e w1 ⟨rfl, rfl⟩
    rw [ck_ok HC.out]
    go_wp2_with fail
    refine bodyPost_ret (v := .tuple #[.agg #[.string ⟨#[116, 101, 110, 111, 114]⟩, .int .u8 67, .int .i64 2, .int .i64 0, .int .i64 26, .int .i64 (-2), .int .i64 (-2)], .int .i64 0]) (by simp only [results, Tryd.results33]; go_simp) rfl ⟨rfl, ?_⟩
    (repeat' (first | (with_reducible exact G.refl _) | (with_reducible assumption) | (with_reducible refine G.drewN ?_ _) | (with_reducible refine G.drew ?_) | (with_reducible refine G.alloc ?_ _) | (with_reducible refine G.setCell ?_ (by first | (with_reducible exact Nat.le_refl _) | (simp; done) | (simp; omega) | omega) _) | (with_reducible refine G.trans ?_ (by assumption))))
  · obtain ⟨x0, x1, x2, x3, x4, x5, x6⟩ := HT.out.d5
    clear HT
    go_enter Tryd.func33, Tryd.ntmps33
    go_wp2_with fail
    refine (cCheck_any _ _).mono ?_
    rintro e w1 ⟨rfl, rfl⟩
    rw [ck_ok HC.out]
    go_wp2_with fail
    refine bodyPost_ret (v := .tuple #[.agg #[.string ⟨#[115, 111, 112, 114, 97, 110, 111]⟩, .int .u8 67, .int .i64 (-4), .int .i64 0, .int .i64 32, .int .i64 (-2), .int .i64 (-3)], .int .i64 0]) (by simp only [results, Tryd.results33]; go_simp) rfl ⟨rfl, ?_⟩
    (repeat' (first | (with_reducible exact G.refl _) | (with_reducible assumption) | (with_reducible refine G.drewN ?_ _) | (with_reducible refine G.drew ?_) | (with_reducible refine G.alloc ?_ _) | (with_reducible refine G.setCell ?_ (by first | (with_reducible exact Nat.le_refl _) | (simp; done) | (simp; omega) | omega) _) | (with_reducible refine G.trans ?_ (by assumption))))
  · obtain ⟨x0, x1, x2, x3, x4, x5, x6⟩ := HT.out.d6
    clear HT
    go_enter Tryd.func33, Tryd.ntmps33
    go_wp2_with fail
    refine (cCheck_any _ _).mono ?_
    rintro e w1 ⟨rfl, rfl⟩
    rw [ck_ok HC.out]
    go_wp2_with fail
    refine bodyPost_ret (v := .tuple #[.agg #[.string ⟨#[109, 101, 122, 122, 111, 115, 111, 112, 114, 97, 110, 111]⟩, .int .u8 67, .int .i64 (-2), .int .i64 0, .int .i64 30, .int .i64 (-2), .int .i64 (-3)], .int .i64 0]) (by simp only [results, Tryd.results33]; go_simp) rfl ⟨rfl, ?_⟩
    (repeat' (first | (with_reducible exact G.refl _) | (with_reducible assumption) | (with_reducible refine G.drewN ?_ _) | (with_reducible refine G.drew ?_) | (with_reducible refine G.alloc ?_ _) | (with_reducible refine G.setCell ?_ (by first | (with_reducible exact Nat.le_refl _) | (simp; done) | (simp; omega) | omega) _) | (with_reducible refine G.trans ?_ (by assumption))))
  · obtain ⟨x0, x1, x2, x3, x4, x5, x6⟩ := HT.out.d7
    clear HT
    go_enter Tryd.func33, Tryd.ntmps33
    go_wp2_with fail
    refine (cCheck_any _ _).mono ?_
    rintro e w1 ⟨rfl, rfl⟩
    rw [ck_ok HC.out]
    go_wp2_with fail
    refine bodyPost_ret (v := .tuple #[.agg #[.string ⟨#[98, 97, 114, 105, 116, 111, 110, 101]⟩, .int .u8 70, .int .i64 0, .int .i64 0, .int .i64 24, .int .i64 (-2), .int .i64 (-3)], .int .i64 0]) (by simp only [results, Tryd.results33]; go_simp) rfl ⟨rfl, ?_⟩
    (repeat' (first | (with_reducible exact G.refl _) | (with_reducible assumption) | (with_reducible refine G.drewN ?_ _) | (with_reducible refine G.drew ?_) | (with_reducible refine G.alloc ?_ _) | (with_reducible refine G.setCell ?_ (by first | (with_reducible exact Nat.le_refl _) | (simp; done) | (simp; omega) | omega) _) | (with_reducible refine G.trans ?_ (by assumption))))
  · obtain ⟨x0, x1, x2, x3, x4, x5, x6⟩ := HT.out.d8
    clear HT
    go_enter Tryd.func33, Tryd.ntmps33
    go_wp2_with fail
    refine (cCheck_any _ _).mono ?_
    rintro e w1 ⟨rfl, rfl⟩
    rw [ck_ok HC.out]
    go_wp2_with fail
    refine bodyPost_ret (v := .tuple #[.agg #[.string ⟨#[116, 114, 101, 98, 108, 101, 56]⟩, .int .u8 71, .int .i64 (-2), .int .i64 (-1), .int .i64 27, .int .i64 (-1), .int .i64 (-3)], .int .i64 0]) (by simp only [results, Tryd.results33]; go_simp) rfl ⟨rfl, ?_⟩
    (repeat' (first | (with_reducible exact G.refl _) | (with_reducible assumption) | (with_reducible refine G.drewN ?_ _) | (with_reducible refine G.drew ?_) | (with_reducible refine G.alloc ?_ _) | (with_reducible refine G.setCell ?_ (by first | (with_reducible exact Nat.le_refl _) | (simp; done) | (simp; omega) | omega) _) | (with_reducible refine G.trans ?_ (by assumption))))
  · obtain ⟨x0, x1, x2, x3, x4, x5, x6⟩ := HT.out.d9
    clear HT
    go_enter Tryd.func33, Tryd.ntmps33
    go_wp2_with fail
    refine (cCheck_any _ _).mono ?_
    rintro e w1 ⟨rfl, rfl⟩
    rw [ck_ok HC.out]
    go_wp2_with fail
    refine bodyPost_ret (v := .tuple #[.agg #[.string ⟨#[98, 97, 115, 115, 56]⟩, .int .u8 70, .int .i64 2, .int .i64 (-1), .int .i64 15, .int .i64 (-3), .int .i64 (-5)], .int .i64 0]) (by simp only [results, Tryd.results33]; go_simp) rfl ⟨rfl, ?_⟩
    (repeat' (first | (with_reducible exact G.refl _) | (with_reducible assumption) | (with_reducible refine G.drewN ?_ _) | (with_reducible refine G.drew ?_) | (with_reducible refine G.alloc ?_ _) | (with_reducible refine G.setCell ?_ (by first | (with_reducible exact Nat.le_refl _) | (simp; done) | (simp; omega) | omega) _) | (with_reducible refine G.trans ?_ (by assumption))))
end Go.Proofs.YtnakfeamimeioaaDoor
