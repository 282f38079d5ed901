import Derived.Test.YtgepjpbdfjcaaaaDoorRows
import Derived.Test.YtgepjpbdfjcaaaaDoorCards
import Derived.Test.YtgepjpbdfjcaaaaDoorTie
import Derived.Test.YtgepjpbdfjcaaaaDoorSL
import Derived.Test.YtgepjpbdfjcaaaaDoorKnown
import Derived.Deep.Slices
import Derived.Carry
import Derived.ProofKit
import Derived.LaidMore
import Derived.OpenShut
import Derived.Lay
import Derived.Stop.Joined
import Derived.Stop.LaidErr
import Derived.Lib.LaidTab
import Derived.LaidSub
/-! What the listed variable gives; arguments: opened and shut. -/
namespace Go.Proofs.YtgepjpbdfjcaaaaDoor
open Go.ChangeShapes Go.WideShapes Go.ChangeAt Go.RowKit

abbrev laidL : List (String × DataW Unit) := [("hemiola/spanner.names", Rows.laid_hemiola_spanner_names)]
theorem own : ownKnob Tryd.prog.godebug = none := by kernel_rfl
theorem gNm : Tryd.prog.globalNamed "hemiola/spanner.names" = some 0 := by kernel_rfl
/-- an array of strings that reads as a list of texts -/
theorem cells_of_strs {H : Type} {enc : TypeId × Value → H} {P : Program} {w : World} {base : Nat} {sp : Nat → Bool} {held : Bool} {fuel : Nat} {t e : TypeId} {n : Nat} {cs : List Value} {zs : List (List UInt8)} {p : List MemPlace}
    (ht : P.underlying t = some (.array n e)) (he : P.underlying e = some .string) (hce : P.cellsOf e = 1)
    (h : DataW.trod enc P w base sp held fuel t cs = some (.agg (zs.map fun z => .lit (.string z)), p)) : ∀ (i : Nat) (z : List UInt8), zs[i]? = some z → cs[i]? = some (.string ⟨z.toArray⟩) := by
  obtain ⟨xs, m, _, ex, _, hl, hel⟩ := DataW.trod_array ht h
  intro i z hz
  have hxs : xs.map (·.1) = zs.map fun z => (DataW.lit (.string z) : DataW H) := (DataW.agg.inj (Prod.mk.inj ex).1).symm
  have hi : i < n := by
    have h1 : i < zs.length := (List.getElem?_eq_some_iff.1 hz).1
    have h2 := congrArg List.length hxs
    simp at h2
    omega
  have hE := hel i hi
  rw [hce, Nat.mul_one, List.getElem?_eq_getElem (by omega)] at hE
  obtain ⟨s, e1, e2, _⟩ := DataW.trod_string he hE
  have e4 : (xs.map (·.1))[i]? = (zs.map fun z => (DataW.lit (.string z) : DataW H))[i]? := by rw [hxs]
  rw [List.getElem?_map, List.getElem?_map, List.getElem?_eq_getElem (by omega : i < xs.length), hz, e2] at e4
  simp only [Option.map_some, Option.some.injEq, DataW.lit.injEq, Lit.string.injEq] at e4
  have h0 : ((cs.drop i).take 1)[0]? = some (.string s) := by rw [e1]; rfl
  have h1 : cs[i]? = some (.string s) := by simpa using h0
  rw [h1, ← e4]

theorem of_filter {W : World} {n : String} {d : DataW Unit} {l : List (String × DataW Unit)} (h : laidMetH Tryd.prog l W) (e : l.filter (fun x => x.1 == n) = [(n, d)]) (hn : d.handleName?.isNone = true) : laidMet Tryd.prog [(n, d)] W := by
  have h1 := laidMetH.filter (fun x => x.1 == n) h
  rw [e, MakeChecks.laidMetH_plain _ _ _ (by simp [hn])] at h1
  exact h1

theorem tab_of_laid {W : World} (h : laidMetH Tryd.prog laidL W) : Tab W := by
  obtain ⟨ps, ⟨g, t, cs, fuel, p, q, hg, ht, hv, hd, _, _⟩, _, _⟩ := of_filter (n := "hemiola/spanner.names") h rfl (by kernel_rfl)
  obtain rfl := Option.some.inj (gNm.symm.trans hg)
  obtain rfl := Option.some.inj ((show (Tryd.prog.globals[0]?).map (·.type) = some 95 by kernel_rfl).symm.trans ht)
  have k2 := cells_of_strs (zs := nms) Tryd.underlying95 Tryd.underlying9 (by kernel_rfl) hd
  have c : ∀ (i : Nat) (z : List UInt8), nms[i]? = some z → W.cell? ⟨0, i, none⟩ = some (.string ⟨z.toArray⟩) := by
    intro i z hz
    rw [World.var?_cell gNm hv i]
    have := k2 i z hz
    simpa using this
  exact ⟨c 0 _ rfl, c 1 _ rfl, c 2 _ rfl, c 3 _ rfl, c 4 _ rfl, c 5 _ rfl, c 6 _ rfl, c 7 _ rfl⟩
/-- A world that is laid so meets the condition. -/
theorem laid_met (os : Os) (args : Array Value) : laidMetH Tryd.prog laidL ((World.laidAll Tryd.prog os laidL).forCall (fun _ _ => 0) ⟨#[], args, []⟩).memory := by
  rw [MakeChecks.laidMetH_plain _ _ _ (by kernel_rfl)]; exact laidMet_laidAll _ (by kernel_rfl) (by kernel_rfl)
theorem shapedL (os : Os) : (World.laidAll Tryd.prog os laidL).Shaped Tryd.prog := World.shaped_of_ZipB (by kernel_rfl) (by kernel_rfl)

theorem intCells : Tryd.prog.cellsOf 3 = 1 := by kernel_rfl
/-- the elements of a slice of integers lie in a world -/
def IntsAt (w : World) (a : Option Addr) (l : List Int) : Prop :=
  l = [] ∨ ∃ b o, a = some ⟨b, o, none⟩ ∧ ∀ (i : Nat) (x : Int), l[i]? = some x → w.cell? ⟨b, o + i, none⟩ = some (.int .i64 x)
theorem IntsAt.later {w w' : World} {a : Option Addr} {l : List Int} (h : IntsAt w a l) (g : G w w') : IntsAt w' a l := by
  rcases h with h | ⟨b, o, h, k⟩
  · exact .inl h
  · exact .inr ⟨b, o, h, fun i x hx => g.at (k i x hx)⟩
theorem IntsAt.take {w : World} {a : Option Addr} {l : List Int} (h : IntsAt w a l) (k : Nat) : IntsAt w a (l.take k) := by
  rcases h with h | ⟨b, o, h, f⟩
  · exact .inl (by rw [h]; simp)
  · exact .inr ⟨b, o, h, fun i x hx => f i x (take_at hx)⟩
set_option maxRecDepth 100000 in
theorem open_intsArg {H : Type} {enc : TypeId × Value → H} {W : World} {base b0 : Nat} {sp : Nat → Bool} {held : Bool} {v : Value} {d : DataW H} {p : List MemPlace}
    (hv : Value.okWide Tryd.prog W .any b0 51 v) (h : DataW.Trod enc Tryd.prog W base sp held 51 v d p) :
    ∃ a cap l, v = .slice a l.length cap ∧ l.length ≤ cap ∧ cap ≤ maxLen ∧ IntsAt W a l ∧ (∀ n ∈ l, (Lit.int .i64 n).wf = true) ∧ (a = none → cap = 0) := by
  obtain ⟨a0, len, cap, rfl⟩ := okWide_slice Tryd.underlying51 hv
  obtain ⟨fuel, hf⟩ := h
  rcases open_ints Tryd.underlying51 Tryd.underlying3 intCells hf with ⟨hcs, _⟩ | ⟨a, len', cap', zs, hcs, _, hl, hm, hz, _, hcell, hwz⟩
  · simp [Value.cells] at hcs
    obtain ⟨rfl, rfl, rfl⟩ := hcs
    exact ⟨none, 0, [], rfl, Nat.le_refl _, Nat.zero_le _, .inl rfl, by simp, fun _ => rfl⟩
  · simp [Value.cells] at hcs
    obtain ⟨rfl, rfl, rfl⟩ := hcs
    have hlz : len ≤ zs.length := by rw [hz]; split <;> omega
    refine ⟨some a, cap, zs.take len, by rw [List.length_take, Nat.min_eq_left hlz], by rw [List.length_take, Nat.min_eq_left hlz]; exact hl, hm, ?_, fun n hn => hwz n (List.mem_of_mem_take hn), by simp⟩
    by_cases h0 : len = 0
    · exact .inl (by rw [h0]; simp)
    · obtain ⟨b, o, s⟩ := a
      have hspot : s = none := by simpa [Addr.add] using World.cell?_spot (hcell 0 (by omega))
      subst hspot
      refine .inr ⟨b, o, rfl, fun i x hx => ?_⟩
      have hx2 := take_at hx
      obtain ⟨hi, hx3⟩ := List.getElem?_eq_some_iff.1 hx2
      have := hcell i hi
      rw [List.getD_eq_getElem?_getD, hx2] at this
      by_cases hi0 : i = 0
      · subst hi0; simpa [Addr.add] using this
      · simpa [Addr.add, hi0] using this

theorem pCells : Tryd.prog.cellsOf 23 = 4 := by kernel_rfl
theorem sCells : Tryd.prog.cellsOf 25 = 9 := by kernel_rfl
/-- the numbers of a place, of a span are of the machine -/
def WfP (p : Pl) : Prop := (Lit.int .i64 p.m).wf = true ∧ (Lit.int .i64 p.a).wf = true ∧ (Lit.int .i64 p.s).wf = true ∧ (Lit.int .i64 p.v).wf = true
def WfS (x : Sp) : Prop := (Lit.int .i64 x.k).wf = true ∧ WfP x.f ∧ WfP x.t
instance : Inhabited Sp := ⟨⟨0, ⟨0, 0, 0, 0⟩, ⟨0, 0, 0, 0⟩⟩⟩
set_option maxRecDepth 100000 in
theorem cells_p {H : Type} {enc : TypeId × Value → H} {W : World} {base : Nat} {sp : Nat → Bool} {held : Bool} {n : Nat} {cs : List Value} {x : DataW H × List MemPlace} (hl : cs.length = 4)
    (h : DataW.trod enc Tryd.prog W base sp held n 23 cs = some x) : ∃ p : Pl, cs = [.int .i64 p.m, .int .i64 p.a, .int .i64 p.s, .int .i64 p.v] ∧ WfP p := by
  match cs, hl with
  | [c0, c1, c2, c3], _ =>
    obtain ⟨xs, n, _, ex, _, hl, hel⟩ := DataW.trod_struct Tryd.underlying23 h
    have e0 : DataW.trod enc Tryd.prog W base sp held n 3 (([c0, c1, c2, c3].drop 0).take (Tryd.prog.cellsOf 3)) = xs[0]? := hel 0 _ rfl
    have e1 : DataW.trod enc Tryd.prog W base sp held n 3 (([c0, c1, c2, c3].drop 1).take (Tryd.prog.cellsOf 3)) = xs[1]? := hel 1 _ rfl
    have e2 : DataW.trod enc Tryd.prog W base sp held n 3 (([c0, c1, c2, c3].drop 2).take (Tryd.prog.cellsOf 3)) = xs[2]? := hel 2 _ rfl
    have e3 : DataW.trod enc Tryd.prog W base sp held n 3 (([c0, c1, c2, c3].drop 3).take (Tryd.prog.cellsOf 3)) = xs[3]? := hel 3 _ rfl
    rw [intCells] at e0 e1 e2 e3
    match xs, hl with
    | [x0, x1, x2, x3], _ =>
      obtain ⟨a, f0, ea, wa⟩ := DataW.trod_int Tryd.underlying3 e0
      obtain ⟨b, f1, eb, wb⟩ := DataW.trod_int Tryd.underlying3 e1
      obtain ⟨c, f2, ec, wc⟩ := DataW.trod_int Tryd.underlying3 e2
      obtain ⟨d, f3, ed, wd⟩ := DataW.trod_int Tryd.underlying3 e3
      simp at f0 f1 f2 f3
      subst f0 f1 f2 f3
      exact ⟨⟨a, b, c, d⟩, rfl, wa, wb, wc, wd⟩
set_option maxRecDepth 100000 in
theorem cells_s {H : Type} {enc : TypeId × Value → H} {W : World} {base : Nat} {sp : Nat → Bool} {held : Bool} {n : Nat} {cs : List Value} {x : DataW H × List MemPlace} (hl : cs.length = 9)
    (h : DataW.trod enc Tryd.prog W base sp held n 25 cs = some x) : ∃ p : Sp, cs = [.int .i64 p.k, .int .i64 p.f.m, .int .i64 p.f.a, .int .i64 p.f.s, .int .i64 p.f.v, .int .i64 p.t.m, .int .i64 p.t.a, .int .i64 p.t.s, .int .i64 p.t.v] ∧ WfS p := by
  match cs, hl with
  | [c0, c1, c2, c3, c4, c5, c6, c7, c8], _ =>
    obtain ⟨xs, n, _, ex, _, hl, hel⟩ := DataW.trod_struct Tryd.underlying25 h
    have e0 : DataW.trod enc Tryd.prog W base sp held n 3 (([c0, c1, c2, c3, c4, c5, c6, c7, c8].drop 0).take (Tryd.prog.cellsOf 3)) = xs[0]? := hel 0 _ rfl
    have e1 : DataW.trod enc Tryd.prog W base sp held n 23 (([c0, c1, c2, c3, c4, c5, c6, c7, c8].drop 1).take (Tryd.prog.cellsOf 23)) = xs[1]? := hel 1 _ rfl
    have e2 : DataW.trod enc Tryd.prog W base sp held n 23 (([c0, c1, c2, c3, c4, c5, c6, c7, c8].drop 5).take (Tryd.prog.cellsOf 23)) = xs[2]? := hel 2 _ rfl
    rw [intCells] at e0
    rw [pCells] at e1 e2
    match xs, hl with
    | [x0, x1, x2], _ =>
      obtain ⟨a, f0, ea, wa⟩ := DataW.trod_int Tryd.underlying3 e0
      obtain ⟨⟨f1, f2, f3, f4⟩, g1, w1⟩ := cells_p (by simp) e1
      obtain ⟨⟨t1, t2, t3, t4⟩, g2, w2⟩ := cells_p (by simp) e2
      simp at f0 g1 g2
      obtain ⟨r0, r1, r2, r3⟩ := g1
      obtain ⟨s0, s1, s2, s3⟩ := g2
      subst f0 r0 r1 r2 r3 s0 s1 s2 s3
      exact ⟨⟨a, ⟨f1, f2, f3, f4⟩, ⟨t1, t2, t3, t4⟩⟩, rfl, wa, w1, w2⟩
theorem agg_of {cs : Array Value} {l : List Value} (h : cs.toList = l) : Value.agg cs = .agg l.toArray := by subst h; simp
set_option maxRecDepth 100000 in
theorem open_pArg {H : Type} {enc : TypeId × Value → H} {W : World} {base b0 : Nat} {sp : Nat → Bool} {held : Bool} {v : Value} {d : DataW H} {p : List MemPlace}
    (hv : Value.okWide Tryd.prog W .any b0 23 v) (h : DataW.Trod enc Tryd.prog W base sp held 23 v d p) : ∃ x : Pl, v = .agg #[.int .i64 x.m, .int .i64 x.a, .int .i64 x.s, .int .i64 x.v] ∧ WfP x := by
  obtain ⟨cs, rfl, hs⟩ := okWide_struct Tryd.underlying23 hv
  obtain ⟨fuel, hf⟩ := h
  obtain ⟨q, hq, hw⟩ := cells_p (cs := cs.toList) (by simpa using hs.trans pCells) (by simpa [Value.cells] using hf)
  exact ⟨q, agg_of hq, hw⟩
set_option maxRecDepth 100000 in
theorem open_sArg {H : Type} {enc : TypeId × Value → H} {W : World} {base b0 : Nat} {sp : Nat → Bool} {held : Bool} {v : Value} {d : DataW H} {p : List MemPlace}
    (hv : Value.okWide Tryd.prog W .any b0 25 v) (h : DataW.Trod enc Tryd.prog W base sp held 25 v d p) : ∃ x : Sp, v = .agg #[.int .i64 x.k, .int .i64 x.f.m, .int .i64 x.f.a, .int .i64 x.f.s, .int .i64 x.f.v, .int .i64 x.t.m, .int .i64 x.t.a, .int .i64 x.t.s, .int .i64 x.t.v] ∧ WfS x := by
  obtain ⟨cs, rfl, hs⟩ := okWide_struct Tryd.underlying25 hv
  obtain ⟨fuel, hf⟩ := h
  obtain ⟨q, hq, hw⟩ := cells_s (cs := cs.toList) (by simpa using hs.trans sCells) (by simpa [Value.cells] using hf)
  exact ⟨q, agg_of hq, hw⟩
set_option maxRecDepth 100000 in
theorem open_spsArg {H : Type} {enc : TypeId × Value → H} {W : World} {base b0 : Nat} {sp : Nat → Bool} {held : Bool} {v : Value} {d : DataW H} {p : List MemPlace}
    (hv : Value.okWide Tryd.prog W .any b0 40 v) (h : DataW.Trod enc Tryd.prog W base sp held 40 v d p) :
    ∃ a cap l, v = .slice a l.length cap ∧ l.length ≤ cap ∧ cap ≤ maxLen ∧ SpsAt W a l ∧ (∀ n ∈ l, WfS n) ∧ (a = none → cap = 0) := by
  obtain ⟨a0, len, cap, rfl⟩ := okWide_slice Tryd.underlying40 hv
  obtain ⟨fuel, hf⟩ := h
  rcases Go.Deep.open_slice Tryd.underlying40 hf with ⟨hcs, _⟩ | ⟨a, len', cap', m, n, D, Pl, hcs, _, hl, hm, hmm, _, hx⟩
  · simp [Value.cells] at hcs
    obtain ⟨rfl, rfl, rfl⟩ := hcs
    exact ⟨none, 0, [], rfl, Nat.le_refl _, Nat.zero_le _, .inl rfl, by simp, fun _ => rfl⟩
  · simp [Value.cells] at hcs
    obtain ⟨rfl, rfl, rfl⟩ := hcs
    have hlm : len ≤ m := by rw [hmm]; split <;> omega
    rw [sCells] at hx
    obtain ⟨f, hf2⟩ := Go.Deep.choose_lt (α := Sp) (n := len) (p := fun i q => (W.cell? (a.add (i * 9)) = some (.int .i64 q.k) ∧ W.cell? ((a.add (i * 9)).add 1) = some (.int .i64 q.f.m) ∧ W.cell? ((a.add (i * 9)).add 2) = some (.int .i64 q.f.a) ∧ W.cell? ((a.add (i * 9)).add 3) = some (.int .i64 q.f.s) ∧ W.cell? ((a.add (i * 9)).add 4) = some (.int .i64 q.f.v) ∧ W.cell? ((a.add (i * 9)).add 5) = some (.int .i64 q.t.m) ∧ W.cell? ((a.add (i * 9)).add 6) = some (.int .i64 q.t.a) ∧ W.cell? ((a.add (i * 9)).add 7) = some (.int .i64 q.t.s) ∧ W.cell? ((a.add (i * 9)).add 8) = some (.int .i64 q.t.v)) ∧ WfS q) (fun i hi => by
      obtain ⟨cs', h1, h2⟩ := hx i (by omega)
      obtain ⟨_, hlen, hcell⟩ := World.cells?_some h1
      obtain ⟨q, rfl, hw⟩ := cells_s hlen h2
      refine ⟨q, ⟨?_, ?_, ?_, ?_, ?_, ?_, ?_, ?_, ?_⟩, hw⟩
      · have := hcell 0 (by omega)
        simpa [Addr.add] using this
      · have := hcell 1 (by omega)
        simpa using this
      · have := hcell 2 (by omega)
        simpa using this
      · have := hcell 3 (by omega)
        simpa using this
      · have := hcell 4 (by omega)
        simpa using this
      · have := hcell 5 (by omega)
        simpa using this
      · have := hcell 6 (by omega)
        simpa using this
      · have := hcell 7 (by omega)
        simpa using this
      · have := hcell 8 (by omega)
        simpa using this)
    refine ⟨some a, cap, (List.range len).map f, by simp, by simpa using hl, hm, ?_, ?_, by simp⟩
    · by_cases h0 : len = 0
      · exact .inl (by rw [h0]; rfl)
      · obtain ⟨b, o, s⟩ := a
        have hspot : s = none := by simpa [Addr.add] using World.cell?_spot (hf2 0 (by omega)).1.1
        subst hspot
        refine .inr ⟨b, o, rfl, fun i x hx => ?_⟩
        rw [List.getElem?_map] at hx
        obtain ⟨j, hj, rfl⟩ := Option.map_eq_some_iff.1 hx
        obtain ⟨hi, hj2⟩ := List.getElem?_eq_some_iff.1 hj
        rw [List.getElem_range] at hj2
        subst hj2
        rw [List.length_range] at hi
        obtain ⟨⟨y0, y1, y2, y3, y4, y5, y6, y7, y8⟩, _⟩ := hf2 i hi
        rw [Go.Deep.add_add] at y1 y2 y3 y4 y5 y6 y7 y8
        refine ⟨?_, ?_, ?_, ?_, ?_, ?_, ?_, ?_, ?_⟩
        · by_cases hi0 : i = 0
          · subst hi0; simpa [Addr.add] using y0
          · have h3 : ¬ i * 9 = 0 := by omega
            simpa [Addr.add, h3] using y0
        · simpa [Addr.add, Nat.add_assoc] using y1
        · simpa [Addr.add, Nat.add_assoc] using y2
        · simpa [Addr.add, Nat.add_assoc] using y3
        · simpa [Addr.add, Nat.add_assoc] using y4
        · simpa [Addr.add, Nat.add_assoc] using y5
        · simpa [Addr.add, Nat.add_assoc] using y6
        · simpa [Addr.add, Nat.add_assoc] using y7
        · simpa [Addr.add, Nat.add_assoc] using y8
    · intro q hq
      obtain ⟨i, hi, rfl⟩ := List.mem_map.1 hq
      exact (hf2 i (List.mem_range.1 hi)).2
end Go.Proofs.YtgepjpbdfjcaaaaDoor
