import Derived.Test.YthengbhokamhbaaDoorOps4
import Derived.Test.YthengbhokamhbaaDoorBestMath
import Derived.Deep.LoopGhost
/-! Best of the program. -/
namespace Go.Proofs.YthengbhokamhbaaDoor
open Go.RowKit QM QB

theorem tdiv_nn {a b : Int} (h : 0 ≤ a) : a.tdiv b = a / b := by rw [Int.tdiv_eq_ediv, if_pos (Or.inl h)]; simp

set_option maxHeartbeats 800000 in
theorem towards_any (bn bd bg on od og m : Int) (w : World) (h1 : -1073741825 ≤ bn) (h2 : bn ≤ 1073741825) (h3 : -1073741825 ≤ on) (h4 : on ≤ 1073741825)
    (h5 : 1 ≤ bd) (h6 : bd ≤ m) (h7 : 1 ≤ od) (h8 : od ≤ m) (h9 : m ≤ 1073741824) (h10 : 0 ≤ bg) (h11 : bg ≤ 1073741824) (h12 : 1 ≤ og) (h13 : og ≤ 1073741824) :
    Calls Tryd.prog 30 #[.agg #[.int .i64 bn, .int .i64 bd, .int .i64 bg], .agg #[.int .i64 on, .int .i64 od, .int .i64 og], .int .i64 m] w fun e w' =>
      e = .returned (.agg #[.int .i64 (bn + min (bg / og) ((m - bd) / od) * on), .int .i64 (bd + min (bg / og) ((m - bd) / od) * od), .int .i64 (bg - min (bg / og) ((m - bd) / od) * og)]) ∧ G w w' := by
  obtain ⟨k1, k2, k3, k4⟩ := @k_facts bg og m bd od h10 (by omega) h6 h7
  have ho : (og == 0) = false := by simp; omega
  have hp : (od == 0) = false := by simp; omega
  have d1 := @div_bd bg og (by omega) (by omega) (by omega)
  have d2 := @div_bd (m - bd) od (by omega) (by omega) (by omega)
  have q1 : IntKind.i64.wrap (bg.tdiv og) = bg / og := by rw [tdiv_nn h10]; exact IntWalk.i64_in _ (by omega)
  have q2 := IntWalk.i64_in (m - bd) (by omega)
  have q3 : IntKind.i64.wrap ((m - bd).tdiv od) = (m - bd) / od := by rw [tdiv_nn (by omega)]; exact IntWalk.i64_in _ (by omega)
  clear d1 d2
  go_enter Tryd.func30, Tryd.ntmps30
  go_wp2_with fail
  go_quiet (fail)
  clear q1 q2 q3 ho hp
  generalize hk0 : min (bg / og) ((m - bd) / od) = k at *
  have hk := Lib.hid hk0
  clear hk0
  obtain ⟨p11, p12⟩ := @prod_bd k on (by omega) (by omega) h3 h4
  obtain ⟨p21, p22⟩ := @prod_bd k od (by omega) (by omega) (by omega) (by omega)
  obtain ⟨p31, p32⟩ := @prod_bd k og (by omega) (by omega) (by omega) (by omega)
  go_wp2
  go_returns
  exact ⟨by rw [hk.out], by (repeat' (first | (with_reducible exact G.refl _) | (with_reducible assumption) | (with_reducible refine G.drewN ?_ _) | (with_reducible refine G.drew ?_) | (with_reducible refine G.alloc ?_ _) | (with_reducible refine G.setCell ?_ (by first | (with_reducible exact Nat.le_refl _) | (simp; done) | (simp; omega) | omega) _) | (with_reducible refine G.trans ?_ (by assumption))))⟩

/-- the bracket that around returns -/
def IsAround (N D m : Int) (w : World) (e : Ending) (w' : World) : Prop := ∃ ln ld lg hn hd hg : Int, Br N D ln ld lg hn hd hg ∧ m < ld + hd ∧ ld ≤ m ∧ hd ≤ m ∧ lg ≤ D ∧ hg ≤ D ∧
  e = .returned (.tuple #[.agg #[.int .i64 ln, .int .i64 ld, .int .i64 lg], .agg #[.int .i64 hn, .int .i64 hd, .int .i64 hg]]) ∧ G w w'

/-- the two results' slots hold a bracket -/
structure LH (w wr : World) (ln ld lg hn hd hg : Int) : Prop where
  sz : w.heap.size + 1 + 1 < wr.heap.size
  c0 : wr.cell? ⟨w.heap.size + 1, 0, none⟩ = some (.int .i64 ln)
  c1 : wr.cell? ⟨w.heap.size + 1, 1, none⟩ = some (.int .i64 ld)
  c2 : wr.cell? ⟨w.heap.size + 1, 2, none⟩ = some (.int .i64 lg)
  d0 : wr.cell? ⟨w.heap.size + 1 + 1, 0, none⟩ = some (.int .i64 hn)
  d1 : wr.cell? ⟨w.heap.size + 1 + 1, 1, none⟩ = some (.int .i64 hd)
  d2 : wr.cell? ⟨w.heap.size + 1 + 1, 2, none⟩ = some (.int .i64 hg)
  f0 : wr.frozen? ⟨w.heap.size + 1, 0, none⟩ = false
  f1 : wr.frozen? ⟨w.heap.size + 1, 1, none⟩ = false
  f2 : wr.frozen? ⟨w.heap.size + 1, 2, none⟩ = false
  g0 : wr.frozen? ⟨w.heap.size + 1 + 1, 0, none⟩ = false
  g1 : wr.frozen? ⟨w.heap.size + 1 + 1, 1, none⟩ = false
  g2 : wr.frozen? ⟨w.heap.size + 1 + 1, 2, none⟩ = false

theorem LH.later {w wr w4 : World} {ln ld lg hn hd hg : Int} (h : LH w wr ln ld lg hn hd hg) (g : G wr w4) : LH w w4 ln ld lg hn hd hg := by
  have hz := h.sz
  have hs := g.size
  have l1 : w.heap.size + 1 < wr.heap.size := by omega
  exact ⟨by omega, (g.cell (by exact l1)).trans h.c0, (g.cell (by exact l1)).trans h.c1, (g.cell (by exact l1)).trans h.c2, (g.cell (by exact hz)).trans h.d0, (g.cell (by exact hz)).trans h.d1, (g.cell (by exact hz)).trans h.d2,
    (g.frozen (by exact l1)).trans h.f0, (g.frozen (by exact l1)).trans h.f1, (g.frozen (by exact l1)).trans h.f2, (g.frozen (by exact hz)).trans h.g0, (g.frozen (by exact hz)).trans h.g1, (g.frozen (by exact hz)).trans h.g2⟩

theorem LH.setLow {w wr : World} {ln ld lg hn hd hg a b c : Int} (h : LH w wr ln ld lg hn hd hg) :
    LH w (((wr.setCell ⟨w.heap.size + 1, 0, none⟩ (.int .i64 a)).setCell ⟨w.heap.size + 1, 1, none⟩ (.int .i64 b)).setCell ⟨w.heap.size + 1, 2, none⟩ (.int .i64 c)) a b c hn hd hg := by
  obtain ⟨sz, c0, c1, c2, d0, d1, d2, f0, f1, f2, g0, g1, g2⟩ := h
  refine ⟨?_, ?_, ?_, ?_, ?_, ?_, ?_, ?_, ?_, ?_, ?_, ?_, ?_⟩
  all_goals (simp [go_sem, *]; done)

theorem LH.setHigh {w wr : World} {ln ld lg hn hd hg a b c : Int} (h : LH w wr ln ld lg hn hd hg) :
    LH w (((wr.setCell ⟨w.heap.size + 1 + 1, 0, none⟩ (.int .i64 a)).setCell ⟨w.heap.size + 1 + 1, 1, none⟩ (.int .i64 b)).setCell ⟨w.heap.size + 1 + 1, 2, none⟩ (.int .i64 c)) ln ld lg a b c := by
  obtain ⟨sz, c0, c1, c2, d0, d1, d2, f0, f1, f2, g0, g1, g2⟩ := h
  refine ⟨?_, ?_, ?_, ?_, ?_, ?_, ?_, ?_, ?_, ?_, ?_, ?_, ?_⟩
  all_goals (simp [go_sem, *]; done)

/-- what holds at the head of around's loop -/
structure AroundAt (N D m : Int) (w wr : World) (ln ld lg hn hd hg : Int) : Prop where
  br : Br N D ln ld lg hn hd hg
  l1 : ld ≤ m
  h1 : hd ≤ m
  l2 : lg ≤ D
  h2 : hg ≤ D
  g : G w wr
  lh : LH w wr ln ld lg hn hd hg

/-- the receiver's box and the two results' slots, behind steps that make new blocks alone -/
structure AroundCells (w w1 : World) (x0 x1 a0 a1 a2 b0 b1 b2 : Value) : Prop where
  x : w1.cell? ⟨w.heap.size, 0, none⟩ = some x0 ∧ w1.cell? ⟨w.heap.size, 1, none⟩ = some x1
  sz : w.heap.size + 1 + 1 < w1.heap.size
  c0 : w1.cell? ⟨w.heap.size + 1, 0, none⟩ = some a0
  c1 : w1.cell? ⟨w.heap.size + 1, 1, none⟩ = some a1
  c2 : w1.cell? ⟨w.heap.size + 1, 2, none⟩ = some a2
  d0 : w1.cell? ⟨w.heap.size + 1 + 1, 0, none⟩ = some b0
  d1 : w1.cell? ⟨w.heap.size + 1 + 1, 1, none⟩ = some b1
  d2 : w1.cell? ⟨w.heap.size + 1 + 1, 2, none⟩ = some b2
  f0 : w1.frozen? ⟨w.heap.size + 1, 0, none⟩ = false
  f1 : w1.frozen? ⟨w.heap.size + 1, 1, none⟩ = false
  f2 : w1.frozen? ⟨w.heap.size + 1, 2, none⟩ = false
  g0 : w1.frozen? ⟨w.heap.size + 1 + 1, 0, none⟩ = false
  g1 : w1.frozen? ⟨w.heap.size + 1 + 1, 1, none⟩ = false
  g2 : w1.frozen? ⟨w.heap.size + 1 + 1, 2, none⟩ = false

theorem around_cells {w w1 : World} {x0 x1 a0 a1 a2 b0 b1 b2 : Value} {t t' : TypeId} (h : G (((w.alloc (.cells #[x0, x1] t)).alloc (.cells #[a0, a1, a2] t')).alloc (.cells #[b0, b1, b2] t')) w1) :
    AroundCells w w1 x0 x1 a0 a1 a2 b0 b1 b2 := by
  have hz := h.size
  simp at hz
  refine ⟨⟨?_, ?_⟩, by omega, ?_, ?_, ?_, ?_, ?_, ?_, ?_, ?_, ?_, ?_, ?_, ?_⟩
  all_goals first
    | (rw [h.cell (by simp; omega)]; go_cell; done)
    | (rw [h.cell (by simp)]; go_cell; done)
    | (rw [h.frozen (by simp; omega)]; simp [go_sem]; done)
    | (rw [h.frozen (by simp)]; simp [go_sem]; done)

theorem Den_new (N O : Int) (w : World) (h1 : 0 ≤ O) (h2 : O ≤ 1073741823) :
    Calls Tryd.prog 15 #[.agg #[.int .i64 N, .int .i64 O]] w fun e w' => e = .returned (.int .i64 (O + 1)) ∧ G w w' :=
  (Den_any N O w h1 h2).mono fun _ _ ⟨he, hw⟩ => ⟨he, hw ▸ (G.refl w).alloc _⟩

set_option maxHeartbeats 800000 in
theorem around_any (N O m : Int) (w : World) (h : Cn N O) (h1 : 1 ≤ m) (h2 : m < O + 1) :
    Calls Tryd.prog 25 #[.agg #[.int .i64 N, .int .i64 O], .int .i64 m] w (IsAround N (O + 1) m w) := by
  have hC := h
  obtain ⟨a1, a2, a3, a4, a5⟩ := h
  have B0 := @br_start N (O + 1) a5 (by omega)
  obtain ⟨f1, f2⟩ := @floor_lt N (O + 1) (by omega)
  obtain ⟨db1, db2⟩ := @div_bd N (O + 1) (by omega) (by omega) (by omega)
  have f3 : (N / (O + 1) + 1) * (O + 1) = N / (O + 1) * (O + 1) + (O + 1) := by rw [Int.add_mul, Int.one_mul]
  have q1 := IntWalk.i64_in (N / (O + 1) * (O + 1)) (by omega)
  have q2 := IntWalk.i64_in (N - N / (O + 1) * (O + 1)) (by omega)
  go_enter Tryd.func25, Tryd.ntmps25
  go_wp2_with fail
  refine (Floor_any _ _ _ hC).mono ?_
  rintro e w1 ⟨rfl, hG1⟩
  have A1 := around_cells hG1
  obtain ⟨⟨x0, x1⟩, _⟩ := A1
  go_wp2_with fail
  go_region_held3 (fun w' => w'.cell? ⟨w.heap.size, 0, none⟩ = some (.int .i64 N) ∧ w'.cell? ⟨w.heap.size, 1, none⟩ = some (.int .i64 O))
    (first | (with_reducible assumption) | ((try dsimp only); (repeat' (with_reducible apply And.intro)) <;> go_simp))
    (first | (go_at_call 15; refine (Den_new _ _ _ (by omega) (by omega)).mono ?_; rintro e w2 ⟨rfl, hG2⟩; have hG3 := G.trans hG1 (G.trans (by (repeat' (first | (with_reducible exact G.refl _) | (with_reducible assumption) | (with_reducible refine G.drewN ?_ _) | (with_reducible refine G.drew ?_) | (with_reducible refine G.alloc ?_ _) | (with_reducible refine G.setCell ?_ (by first | (with_reducible exact Nat.le_refl _) | (simp; done) | (simp; omega) | omega) _) | (with_reducible refine G.trans ?_ (by assumption))))) hG2); obtain ⟨hS, A2⟩ := around_cells hG3))
  clear q1 q2
  have hG6 := G.trans hG1 (G.trans (by (repeat' (first | (with_reducible exact G.refl _) | (with_reducible assumption) | (with_reducible refine G.drewN ?_ _) | (with_reducible refine G.drew ?_) | (with_reducible refine G.alloc ?_ _) | (with_reducible refine G.setCell ?_ (by first | (with_reducible exact Nat.le_refl _) | (simp; done) | (simp; omega) | omega) _) | (with_reducible refine G.trans ?_ (by assumption))))) hG2)
  have bd := br_bd B0 a1 a2 (by omega) (by omega) (by omega) (by omega)
  have lp := B0.lpos
  have hp := B0.hpos
  clear f1 f2 f3
  generalize N / (O + 1) = fl at *
  generalize N - fl * (O + 1) = gp at *
  go_wp2_with fail
  refine (Den_new _ _ _ (by omega) (by omega)).mono ?_
  rintro e w3 ⟨rfl, hG4⟩
  have hG5 := G.trans hG6 (G.trans (by (repeat' (first | (with_reducible exact G.refl _) | (with_reducible assumption) | (with_reducible refine G.drewN ?_ _) | (with_reducible refine G.drew ?_) | (with_reducible refine G.alloc ?_ _) | (with_reducible refine G.setCell ?_ (by first | (with_reducible exact Nat.le_refl _) | (simp; done) | (simp; omega) | omega) _) | (with_reducible refine G.trans ?_ (by assumption))))) hG4)
  obtain ⟨_, z1, z2, z3, z4, z5, z6, z7, z8, z9, z10, z11, z12, z13⟩ := around_cells hG5
  have hGw : G w w3 := G.trans (by (repeat' (first | (with_reducible exact G.refl _) | (with_reducible assumption) | (with_reducible refine G.drewN ?_ _) | (with_reducible refine G.drew ?_) | (with_reducible refine G.alloc ?_ _) | (with_reducible refine G.setCell ?_ (by first | (with_reducible exact Nat.le_refl _) | (simp; done) | (simp; omega) | omega) _) | (with_reducible refine G.trans ?_ (by assumption))))) hG5
  clear hG5 hG6 hG4 hG3 hG2 hG1
  have L0 : LH w w3 0 0 0 0 0 0 := ⟨z1, z2, z3, z4, z5, z6, z7, z8, z9, z10, z11, z12, z13⟩
  go_wp2_with fail
  clear z1 z2 z3 z4 z5 z6 z7 z8 z9 z10 z11 z12 z13
  go_loopg [27] (2 * m - 1 - 1).toNat (fun k _ wr => ∃ ln ld lg hn hd hg : Int, k = (2 * m - ld - hd).toNat ∧ AroundAt N (O + 1) m w wr ln ld lg hn hd hg)
  case atStart => exact ⟨fl, 1, gp, fl + 1, 1, O + 1 - gp, rfl, ⟨B0, by omega, by omega, by omega, by omega, by (repeat' (first | (with_reducible exact G.refl _) | (with_reducible assumption) | (with_reducible refine G.drewN ?_ _) | (with_reducible refine G.drew ?_) | (with_reducible refine G.alloc ?_ _) | (with_reducible refine G.setCell ?_ (by first | (with_reducible exact Nat.le_refl _) | (simp; done) | (simp; omega) | omega) _) | (with_reducible refine G.trans ?_ (by assumption)))), (L0.setLow).setHigh⟩⟩
  case round =>
    obtain ⟨ln, ld, lg, hn, hd, hg, hk, A⟩ := hrel
    have HK := Lib.hid hk
    clear hk
    obtain ⟨Br1, m1, m2, m3, m4, hGr, L⟩ := A
    have L' := L
    obtain ⟨sz, c0, c1, c2, d0, d1, d2, f0, f1, f2, g0, g1, g2⟩ := L'
    have t1 := Br1.ld1
    have t2 := Br1.hd1
    have t3 := Br1.lpos
    have t4 := Br1.hpos
    obtain ⟨u1, u2, u3, u4⟩ := br_bd Br1 a1 a2 (by omega) (by omega) m3 m4
    by_cases hc : ld + hd ≤ m
    · have R := round_facts (k1 := min (lg / hg) ((m - ld) / hd)) a5 Br1 (by omega) m1 m2 m3 m4 hc rfl rfl
      go_wp2_with fail
      refine (towards_any ln ld lg hn hd hg m _ u1 u2 u3 u4 t1 m1 t2 m2 (by omega) (by omega) (by omega) (by omega) (by omega)).mono ?_
      rintro e w4 ⟨rfl, hG7⟩
      clear c0 c1 c2 d0 d1 d2 f0 f1 f2 g0 g1 g2
      have L4 := L.later (G.trans (by (repeat' (first | (with_reducible exact G.refl _) | (with_reducible assumption) | (with_reducible refine G.drewN ?_ _) | (with_reducible refine G.drew ?_) | (with_reducible refine G.alloc ?_ _) | (with_reducible refine G.setCell ?_ (by first | (with_reducible exact Nat.le_refl _) | (simp; done) | (simp; omega) | omega) _) | (with_reducible refine G.trans ?_ (by assumption))))) hG7)
      generalize min (lg / hg) ((m - ld) / hd) = k1 at *
      obtain ⟨R1, R2, R3, R4, R5, R6, R7⟩ := R
      generalize ln + k1 * hn = ln' at *
      generalize ld + k1 * hd = ld' at *
      generalize lg - k1 * hg = lg' at *
      have v1 := R1.ld1
      have v2 := R1.lpos
      obtain ⟨x1, x2, x3, x4⟩ := br_bd R1 a1 a2 (by omega) (by omega) R3 m4
      have L5 : LH w _ ln' ld' lg' hn hd hg := L4.setLow
      obtain ⟨sz4, c0, c1, c2, d0, d1, d2, f0, f1, f2, g0, g1, g2⟩ := L4
      go_wp2_with fail
      refine (towards_any hn hd hg ln' ld' lg' m _ x3 x4 x1 x2 t2 m2 v1 R2 (by omega) (by omega) (by omega) (by omega) (by omega)).mono ?_
      rintro e w5 ⟨rfl, hG8⟩
      clear c0 c1 c2 d0 d1 d2 f0 f1 f2 g0 g1 g2
      have L6 := L5.later hG8
      have hGf : G w w5 := by (repeat' (first | (with_reducible exact G.refl _) | (with_reducible assumption) | (with_reducible refine G.drewN ?_ _) | (with_reducible refine G.drew ?_) | (with_reducible refine G.alloc ?_ _) | (with_reducible refine G.setCell ?_ (by first | (with_reducible exact Nat.le_refl _) | (simp; done) | (simp; omega) | omega) _) | (with_reducible refine G.trans ?_ (by assumption))))
      generalize min (hg / lg') ((m - hd) / ld') = k2 at *
      generalize hn + k2 * ln' = hn' at *
      generalize hd + k2 * ld' = hd' at *
      generalize hg - k2 * lg' = hg' at *
      have L7 : LH w _ ln' ld' lg' hn' hd' hg' := L6.setHigh
      obtain ⟨sz6, c0, c1, c2, d0, d1, d2, f0, f1, f2, g0, g1, g2⟩ := L6
      go_wp2
      go_roundg ((2 * m - ld' - hd').toNat)
      case measure => have := HK.out; omega
      case rel => exact ⟨ln', ld', lg', hn', hd', hg', rfl, ⟨R4, R2, R5, R3, R6, by (repeat' (first | (with_reducible exact G.refl _) | (with_reducible assumption) | (with_reducible refine G.drewN ?_ _) | (with_reducible refine G.drew ?_) | (with_reducible refine G.alloc ?_ _) | (with_reducible refine G.setCell ?_ (by first | (with_reducible exact Nat.le_refl _) | (simp; done) | (simp; omega) | omega) _) | (with_reducible refine G.trans ?_ (by assumption)))), L7⟩⟩
    · clear L HK
      have n1 : w.heap.size + 1 ≠ w.heap.size + 1 + 1 := by omega
      go_wp2_with fail
      go_region_held3 (fun w' => w'.cell? ⟨w.heap.size + 1, 0, none⟩ = some (.int .i64 ln) ∧ w'.cell? ⟨w.heap.size + 1, 1, none⟩ = some (.int .i64 ld) ∧ w'.cell? ⟨w.heap.size + 1, 2, none⟩ = some (.int .i64 lg) ∧
          w'.cell? ⟨w.heap.size + 1 + 1, 0, none⟩ = some (.int .i64 hn) ∧ w'.cell? ⟨w.heap.size + 1 + 1, 1, none⟩ = some (.int .i64 hd) ∧ w'.cell? ⟨w.heap.size + 1 + 1, 2, none⟩ = some (.int .i64 hg))
        (first | (with_reducible assumption) | ((try dsimp only); (repeat' (with_reducible apply And.intro)) <;> go_simp))
        (fail)
      go_wp2
      refine bodyPost_ret (v := .tuple #[.agg #[.int .i64 ln, .int .i64 ld, .int .i64 lg], .agg #[.int .i64 hn, .int .i64 hd, .int .i64 hg]]) (by simp [results, Tryd.results25, go_sem, c0, c1, c2, d0, d1, d2]) rfl ⟨ln, ld, lg, hn, hd, hg, Br1, by omega, m1, m2, m3, m4, rfl, ?_⟩
      (repeat' (first | (with_reducible exact G.refl _) | (with_reducible assumption) | (with_reducible refine G.drewN ?_ _) | (with_reducible refine G.drew ?_) | (with_reducible refine G.alloc ?_ _) | (with_reducible refine G.setCell ?_ (by first | (with_reducible exact Nat.le_refl _) | (simp; done) | (simp; omega) | omega) _) | (with_reducible refine G.trans ?_ (by assumption))))
end Go.Proofs.YthengbhokamhbaaDoor
