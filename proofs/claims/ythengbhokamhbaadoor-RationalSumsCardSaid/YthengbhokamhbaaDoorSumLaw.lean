/- RationalSums: for every list of pairs of numbers (the first 20 of them, brought into the limits), the sum of the fractions agrees with the reference's; the arguments read as before; the tables that the row lists are tied to the program text; no further condition. -/
import Derived.Test.YthengbhokamhbaaDoorSl
import Derived.Test.YthengbhokamhbaaDoorSumM
namespace Go.Proofs.YthengbhokamhbaaDoor
open Go.RowKit QM Go.ChangeShapes Go.WideShapes
attribute [local go_sem] World.cell?_alloc_some
def cells2 (p : Pr) : List Value := [.int .i64 p.1, .int .i64 p.2]
def flat2 (l : List Pr) : List Value := l.flatMap cells2
theorem flat2_more (a : List Pr) (p : Pr) : flat2 (a ++ [p]) = flat2 a ++ cells2 p := by simp [flat2]
theorem grown_of_G {A C : World} (h : G A C) (row : Option Nat) : A.grownBy C row := ⟨h.os, h.tape, h.output, h.size, fun k hk _ => h.block k hk⟩
theorem own_later {W W' : World} {base : Nat} {e : TypeId} {size k : Nat} {v : Value} {xs : List Value} (h : W.ownsRow base e size v k xs) (g : G W W') : W'.ownsRow base e size v k xs := by
  refine h.kept (grown_of_G g none) ?_
  rcases h.2 with ⟨rfl, _⟩ | ⟨b, cap, cur, rfl, _, _, _⟩
  · exact .inl rfl
  · exact .inr (by simp [Value.ownBlock])
theorem rInfo : (Tryd.prog.info? 27).map (fun i => (i.zero, i.size, i.bytes)) = some (some (.agg #[.int .i64 0, .int .i64 0]), 2, 16) := by kernel_rfl
theorem info_parts' {P : Program} {t : TypeId} {z : Value} {s b : Nat} (h : (P.info? t).map (fun i => (i.zero, i.size, i.bytes)) = some (some z, s, b)) : ∃ i, P.info? t = some i ∧ i.zero = some z ∧ i.size = s ∧ i.bytes = b := by
  cases hi : P.info? t with
  | none => rw [hi] at h; cases h
  | some i =>
    rw [hi] at h
    simp only [Option.map_some, Option.some.injEq, Prod.mk.injEq] at h
    exact ⟨i, rfl, h.1, h.2.1, h.2.2⟩
theorem cell_two_new (W : World) (B : Nat) (a b : Value) (t : TypeId) (hs : W.heap.size = B) : ∀ (j : Nat) (u : Value), [a, b][j]? = some u → (W.alloc (.cells #[a, b] t)).cell? ((⟨B, 0, none⟩ : Addr).add j) = some u := by
  intro j u hj
  subst hs
  match j, hj with
  | 0, h => simp at h; subst h; simp [Addr.add]
  | 1, h => simp at h; subst h; simp [Addr.add]
  | j + 2, h => simp at h
theorem own_cells {W : World} {base : Nat} {v : Value} {l : List Pr} (h : W.ownsRow base 27 2 v l.length (flat2 l)) : ∃ a cap, v = .slice a l.length cap ∧ FrsAt W a l := by
  rcases h.2 with ⟨h1, h2⟩ | ⟨g, cap, cur, h1, h2, h3, h4, h5, h6, h7⟩
  · exact ⟨none, 0, by rw [h1, h2], .inl (List.length_eq_zero_iff.1 h2)⟩
  · refine ⟨_, cap, h1, .inr ⟨g, rfl, fun i p hp => ?_⟩⟩
    have hfl : ∀ (l : List Pr) (i : Nat) (p : Pr), l[i]? = some p → (flat2 l)[i * 2]? = some (.int .i64 p.1) ∧ (flat2 l)[i * 2 + 1]? = some (.int .i64 p.2) := by
      intro l
      induction l with
      | nil => intro i p h; simp at h
      | cons q l ih =>
        intro i p h
        have e : flat2 (q :: l) = .int .i64 q.1 :: .int .i64 q.2 :: flat2 l := by simp [flat2, cells2]
        rw [e]
        match i, h with
        | 0, h => simp at h; subst h; exact ⟨rfl, rfl⟩
        | i + 1, h =>
          have := ih i p (by simpa using h)
          rw [show (i + 1) * 2 = i * 2 + 2 by omega]
          exact this
    obtain ⟨y0, y1⟩ := hfl l i p hp
    rw [← h7] at y0 y1
    have tk : ∀ {j : Nat} {u : Value}, (cur.toList.take (l.length * 2))[j]? = some u → cur.toList[j]? = some u := by
      intro j u h
      rw [List.getElem?_take] at h
      split at h
      · exact h
      · cases h
    have z0 := tk y0
    have z1 := tk y1
    simp only [World.cell?, h3]
    exact ⟨by simpa using z0, by simpa using z1⟩

theorem own_ne {W : World} {base n size : Nat} {e : TypeId} {v : Value} {xs : List Value} (h : W.ownsRow base e size v n xs) {b : Nat} (hb : W.heap.size ≤ b ∨ b < base) : v.ownBlock ≠ some b := by
  rcases h.2 with ⟨h1, h2⟩ | ⟨g, cap, cur, h1, h2, h3, _⟩
  · subst h1; simp [Value.ownBlock]
  · subst h1
    intro e
    obtain rfl : g = b := by simpa [Value.ownBlock] using e
    have hl : g < W.heap.size := by
      by_cases c : g < W.heap.size
      · exact c
      · rw [Array.getElem?_eq_none (by omega)] at h3; cases h3
    omega
theorem By2.app {W w1 : World} {tmp : Obj} {row : Option Nat} {b : Nat} {x y : Int} (h : By2 W b x y) (hg : (W.alloc tmp).grownBy w1 row) (hne : row ≠ some b) : By2 w1 b x y := by
  have h2 := h.later (G.alloc (G.refl _) tmp)
  obtain ⟨⟨h0, h1⟩, f0, f1⟩ := h2
  have e := hg.block b (cell_lt' h0) (fun e => hne e.symm)
  exact ⟨⟨(World.cell?_of_block (a := ⟨b, 0, none⟩) e).trans h0, (World.cell?_of_block (a := ⟨b, 1, none⟩) e).trans h1⟩, (World.frozen?_of_block (a := ⟨b, 0, none⟩) e).trans f0, (World.frozen?_of_block (a := ⟨b, 1, none⟩) e).trans f1⟩
theorem G.app {w W w1 : World} {tmp : Obj} {row : Option Nat} (h : G w W) (hg : (W.alloc tmp).grownBy w1 row) (hr : ∀ k, row = some k → w.heap.size ≤ k) : G w w1 :=
  Below.grown (h.alloc tmp) hg (by have := h.size; simp; omega) hr
theorem own_set {W : World} {base n size : Nat} {e : TypeId} {v : Value} {xs : List Value} (h : W.ownsRow base e size v n xs) {b : Nat} (hb : b < base) (j : Nat) (u : Value) : (W.setCell ⟨b, j, none⟩ u).ownsRow base e size v n xs :=
  h.kept (show W.grownBy (W.setCell ⟨b, j, none⟩ u) (some b) from ⟨rfl, rfl, rfl, by simp, fun k _ hne => Below.heap_setCell _ _ _ k (fun e => hne (by rw [e]))⟩) (.inr (own_ne h (.inr hb)))
theorem own_ge {W : World} {base n size : Nat} {e : TypeId} {v : Value} {xs : List Value} (h : W.ownsRow base e size v n xs) {k : Nat} (hk : v.ownBlock = some k) : base ≤ k := by
  by_cases c : base ≤ k
  · exact c
  · exact absurd hk (own_ne h (.inr (by omega)))
theorem sum_more (L : List Pr) (p : Pr) : sumS (L ++ [p]) = st (sumS L) p := by
  unfold sumS
  rw [List.foldl_append]
  rfl
theorem Sum_any2 (a : Option Addr) (l : List Pr) (c1 n : Nat) (w : World) (hn : l.length = n) (hl : l.length ≤ 20) (h1 : FrsAt w a l) (hC : ∀ p ∈ l, Cn p.1 p.2) :
    Calls Tryd.prog 6 #[.slice a n c1] w fun e w' => e = .returned (.tuple #[.agg #[.int .i64 (sumS l).1, .int .i64 (sumS l).2.1], .int .i64 (sumS l).2.2]) ∧ G w w' := by
  subst hn
  exact Sum_any a l c1 w hl h1 hC
set_option maxRecDepth 100000 in
set_option maxHeartbeats 30000000 in
theorem sums_walk (a : Option Addr) (l : List Pr) (cap : Nat) (w : World) (hc1 : l.length ≤ cap) (hm1 : cap ≤ maxLen) (h1 : PrsAt w a l) (_ : a = none → cap = 0) (hw : ∀ n ∈ l, (Lit.int .i64 n.1).wf = true ∧ (Lit.int .i64 n.2).wf = true) (hT : Tab w) :
    Calls Tryd.prog 3 #[.slice a l.length cap] w fun e w' => e = .returned (.bool true) ∧ G w w' := by
  have HT := Lib.hid hT
  have H1 := Lib.hid h1
  have HW := Lib.hid hw
  unfold maxLen at hm1
  have hk : ((l.length : Int) ≤ 9223372036854775807) := by omega
  clear hT h1 hw hc1 hm1
  obtain ⟨i0, hi, hz0, hz1, hz2⟩ := info_parts' rInfo
  have b4 := Lib.hid (By2.new w 0 1 25)
  go_enter Tryd.func3, Tryd.ntmps3
  go_wp2_with fail
  generalize hk2 : w.heap.size = k2 at *
  go_loopg [3, 5, 6] 20 (fun k y z x wr => ∃ (i : Nat) (v : Value) (L : List Pr) (N O E : Int), v = y ∧ z = .int .i64 E ∧ x = .int .i64 i ∧ k = 20 - i ∧ i ≤ 20 ∧ (i : Int) ≤ l.length ∧ L.length = i ∧ Hid (∀ p ∈ L, Cn p.1 p.2) ∧ Hid (sumS L = (N, O, E)) ∧ wr.ownsRow (k2 + 1) 27 2 v L.length (flat2 L) ∧ By2 wr k2 N (O + 1) ∧ G w wr)
  case atStart => exact ⟨0, _, [], 0, 0, 0, rfl, rfl, rfl, rfl, by omega, by omega, rfl, Lib.hid (by simp), Lib.hid rfl, World.ownsRow_nil _ _ _ _, b4.out.later (by (repeat' (first | (with_reducible exact G.refl _) | (with_reducible assumption) | (with_reducible refine G.drewN ?_ _) | (with_reducible refine G.drew ?_) | (with_reducible refine G.alloc ?_ _) | (with_reducible refine G.setCell ?_ (by first | (with_reducible exact Nat.le_refl _) | (simp; done) | (simp; omega) | omega) _) | (with_reducible refine G.trans ?_ (by assumption))))), by (repeat' (first | (with_reducible exact G.refl _) | (with_reducible assumption) | (with_reducible refine G.drewN ?_ _) | (with_reducible refine G.drew ?_) | (with_reducible refine G.alloc ?_ _) | (with_reducible refine G.setCell ?_ (by first | (with_reducible exact Nat.le_refl _) | (simp; done) | (simp; omega) | omega) _) | (with_reducible refine G.trans ?_ (by assumption))))⟩
  case round =>
    obtain ⟨i, v, L, N, O, E, rfl, rfl, rfl, hg, hi20, hil, hL, hC, hS, hown, B4, gr⟩ := hrel
    have HG := Lib.hid hg
    clear hg
    by_cases hin : i < l.length
    · by_cases hi2 : i < 20
      · obtain ⟨⟨n, d⟩, hp⟩ : ∃ c, l[i]? = some c := ⟨l[i], List.getElem?_eq_getElem hin⟩
        have hwf := HW.out _ (List.mem_of_getElem? hp)
        obtain ⟨n0, n1⟩ := bounds_i64 hwf.1
        obtain ⟨d0, d1⟩ := bounds_i64 hwf.2
        have NB := Lib.hid (And.intro (And.intro n0 n1) (And.intro d0 d1))
        rcases H1.out with hz | ⟨bl, o, rfl, fp⟩
        · rw [hz] at hin; exact absurd hin (by simp)
        obtain ⟨x0', x1'⟩ := fp i _ hp
        have x0 := gr.at' x0'
        have x1 := gr.at' x1'
        have b1 : (0 : Int) ≤ (i : Int) := by omega
        have b2' : (i : Int) < (l.length : Int) := by omega
        have q1 := IntWalk.i64_in ((i : Int) + 1) (by omega)
        clear hp fp x0' x1' n0 n1 d0 d1 hwf
        have HB4 := Lib.hid B4
        have HOW := Lib.hid hown
        clear B4 hown
        go_wp2_with fail
        have n1 := cell_lt' x0
        have n2 : wr.heap.size ≠ bl := by (try simp at n1); omega
        have n3 : wr.heap.size + 1 ≠ bl := by (try simp at n1); omega
        go_region_held3 (fun w' => w'.cell? ⟨bl, o + i * 2, none⟩ = some (.int .i64 n) ∧ w'.cell? ⟨bl, o + i * 2 + 1, none⟩ = some (.int .i64 d))
          (first | (with_reducible assumption) | ((try dsimp only); (repeat' (with_reducible apply And.intro)) <;> go_simp) | go_keep)
          ((go_at_call 4; refine (of_any n d _ NB.out.1.1 NB.out.1.2 NB.out.2.1 NB.out.2.2).mono ?_; rintro e w2 ⟨N1, O1, hN1, rfl, hG⟩; have g2 : G wr w2 := G.trans (by (repeat' (first | (with_reducible exact G.refl _) | (with_reducible refine G.drewN ?_ _) | (with_reducible refine G.drew ?_) | (with_reducible refine G.alloc ?_ _)))) hG; have y0 := g2.at' x0; have y1 := g2.at' x1; (try (have z1 := (By2.new _ 0 0 _).later (G.trans (G.drew (G.refl _)) hG); (try simp at z1); have Z1 := Lib.hid z1; have zg0 : ∀ A : Obj, (w2.alloc A).frozen? _ = false := fun A => (z1.later (G.alloc (G.refl _) A)).2.1; have zg1 : ∀ A : Obj, (w2.alloc A).frozen? _ = false := fun A => (z1.later (G.alloc (G.refl _) A)).2.2; obtain ⟨⟨p0, p1⟩, pf0, pf1⟩ := z1; have zl := cell_lt' p0; (try dsimp only at zl))); (try (have z2 := (By2.new _ 0 0 _).later (G.trans (G.drew (G.alloc (G.refl _) _)) hG); (try simp at z2); have Z2 := Lib.hid z2; have zh0 : ∀ A : Obj, (w2.alloc A).frozen? _ = false := fun A => (z2.later (G.alloc (G.refl _) A)).2.1; have zh1 : ∀ A : Obj, (w2.alloc A).frozen? _ = false := fun A => (z2.later (G.alloc (G.refl _) A)).2.2; obtain ⟨⟨r0, r1⟩, rf0, rf1⟩ := z2; have zm := cell_lt' r0; (try dsimp only at zm))); have m1 := cell_lt' y0; have m2 : w2.heap.size ≠ bl := (by (try simp at m1); omega); have m3 : w2.heap.size + 1 ≠ bl := (by (try simp at m1); omega)))
        · have hsz := g2.size
          have hsw := gr.size
          have X7 := (By2.new w2 N1 O1 27).later (G.alloc (G.refl _) (.cells #[.int .i64 N1, .int .i64 (O1 + 1)] 25))
          have X8 := By2.new (w2.alloc (.cells #[.int .i64 N1, .int .i64 O1] 27)) N1 (O1 + 1) 25
          have gW : G wr ((w2.alloc (.cells #[.int .i64 N1, .int .i64 O1] 27)).alloc (.cells #[.int .i64 N1, .int .i64 (O1 + 1)] 25)) := by (repeat' (first | (with_reducible exact G.refl _) | (with_reducible assumption) | (with_reducible refine G.drewN ?_ _) | (with_reducible refine G.drew ?_) | (with_reducible refine G.alloc ?_ _) | (with_reducible refine G.setCell ?_ (by first | (with_reducible exact Nat.le_refl _) | (simp; done) | (simp; omega) | omega) _) | (with_reducible refine G.trans ?_ (by assumption))))
          have X8n := own_ne HOW.out (b := w2.heap.size + 1) (.inl (by omega))
          rw [show (w2.alloc (.cells #[.int .i64 N1, .int .i64 O1] 27)).heap.size = w2.heap.size + 1 from by simp] at X8
          (try clear zg0 zg1 p0 p1 pf0 pf1)
          (try clear zh0 zh1 r0 r1 rf0 rf1)
          (try clear y0 y1 x0 x1 m1 m2 m3 n1 n2 n3)
          (try clear zl)
          (try clear zm)
          (try clear Z1)
          (try clear Z2)
          (try clear hG)
          generalize ((w2.alloc (.cells #[.int .i64 N1, .int .i64 O1] 27)).alloc (.cells #[.int .i64 N1, .int .i64 (O1 + 1)] 25)) = W6 at *
          have hs6 := gW.size
          have OW6 := own_later HOW.out gW
          have B6 := HB4.out.later gW
          obtain ⟨⟨c0, c1⟩, cf0, cf1⟩ := X7
          by_cases hE0 : E = 0
          · have hN : Cn N O := by
              have := sum_fine L
              rw [hS.out] at this
              rcases this with ⟨_, z⟩ | ⟨z, _⟩
              · exact z
              · exact absurd hE0 z
            subst hE0
            obtain ⟨A, HA⟩ : ∃ A : Int, Hid (A = N * (O1 + 1) + N1 * (O + 1)) := ⟨_, rfl⟩
            obtain ⟨B, HB⟩ : ∃ B : Int, Hid (B = (O + 1) * (O1 + 1)) := ⟨_, rfl⟩
            have HS2 := Lib.hid (show sumS (L ++ [(N1, O1)]) = (oN A B, oD A B - 1, oE A B) by
              rw [sum_more, hS.out]
              unfold st
              rw [if_pos rfl]
              rw [show sA (N, O, 0) (N1, O1) = A from HA.out.symm, show sB (N, O, 0) (N1, O1) = B from HB.out.symm])
            go_wp2_with ((at_builtin; refine wpList_append_own _ rfl _ _ 23 rfl (k2 + 1) 27 i0 (.agg #[.int .i64 0, .int .i64 0]) 2 16 Tryd.underlying23 hi hz0 hz1 hz2 rfl (by decide) v L.length (flat2 L) rfl (own_later OW6 (by (repeat' (first | (with_reducible exact G.refl _) | (with_reducible assumption) | (with_reducible refine G.drewN ?_ _) | (with_reducible refine G.drew ?_) | (with_reducible refine G.alloc ?_ _) | (with_reducible refine G.setCell ?_ (by first | (with_reducible exact Nat.le_refl _) | (simp; done) | (simp; omega) | omega) _) | (with_reducible refine G.trans ?_ (by assumption)))))) ⟨W6.heap.size, 0, none⟩ 1 1 (cells2 (N1, O1)) rfl rfl (cell_two_new _ _ _ _ _ (by simp)) (by simp [cells2, Value.oneCell']) (by unfold maxLen; omega) (by omega) (by simp; omega) ?_; intro v' w1 hown' hgrow _; have B1 := B6.app hgrow (own_ne OW6 (.inr (by omega))); have X1 := X8.app hgrow X8n; have gw1 : G w w1 := G.app (gr.trans gW) hgrow (fun k hk => by have := own_ge OW6 hk; omega); obtain ⟨⟨s0, s1⟩, sf0, sf1⟩ := id B1; obtain ⟨⟨t0, t1⟩, tf0, tf1⟩ := id X1))
            refine (rAdd_any N O N1 O1 _ hN hN1).mono ?_
            rintro e w5 ⟨rfl, hG5⟩
            rw [← HA.out, ← HB.out]
            have B5 := B1.later hG5
            clear s0 s1 sf0 sf1 t0 t1 tf0 tf1
            obtain ⟨⟨s0, s1⟩, sf0, sf1⟩ := id B5
            have gz : G w ((w5.setCell ⟨k2, 0, none⟩ (.int .i64 (oN A B))).setCell ⟨k2, 1, none⟩ (.int .i64 (oD A B))) := ((gw1.trans hG5).setCell (by show w.heap.size ≤ k2; omega) _).setCell (by show w.heap.size ≤ k2; omega) _
            have B7 := B5.set (oN A B) (oD A B)
            have O7 := own_set (own_set (own_later hown' hG5) (b := k2) (by omega) 0 (.int .i64 (oN A B))) (b := k2) (by omega) 1 (.int .i64 (oD A B))
            go_wp2_with fail
            go_roundg (20 - (i + 1))
            case measure => have := HG.out; omega
            case rel => exact ⟨i + 1, v', L ++ [(N1, O1)], oN A B, oD A B - 1, oE A B, rfl, rfl, by first | rfl | simp, rfl, by omega, by omega, by simp [hL], Lib.hid (fun p hp => by rcases List.mem_append.1 hp with h | h; exact hC.out p h; simp at h; subst h; exact hN1), HS2, by rw [flat2_more, List.length_append]; exact O7, by rw [Int.sub_add_cancel]; exact B7, gz⟩
          · have k1 : (E == 0) = false := beq_false_of_ne hE0
            have HS2 := Lib.hid (show sumS (L ++ [(N1, O1)]) = (N, O, E) by
              rw [sum_more, hS.out]
              exact if_neg hE0)
            clear hE0
            go_wp2_with ((at_builtin; refine wpList_append_own _ rfl _ _ 23 rfl (k2 + 1) 27 i0 (.agg #[.int .i64 0, .int .i64 0]) 2 16 Tryd.underlying23 hi hz0 hz1 hz2 rfl (by decide) v L.length (flat2 L) rfl (own_later OW6 (by (repeat' (first | (with_reducible exact G.refl _) | (with_reducible assumption) | (with_reducible refine G.drewN ?_ _) | (with_reducible refine G.drew ?_) | (with_reducible refine G.alloc ?_ _) | (with_reducible refine G.setCell ?_ (by first | (with_reducible exact Nat.le_refl _) | (simp; done) | (simp; omega) | omega) _) | (with_reducible refine G.trans ?_ (by assumption)))))) ⟨W6.heap.size, 0, none⟩ 1 1 (cells2 (N1, O1)) rfl rfl (cell_two_new _ _ _ _ _ (by simp)) (by simp [cells2, Value.oneCell']) (by unfold maxLen; omega) (by omega) (by simp; omega) ?_; intro v' w1 hown' hgrow _; have B1 := B6.app hgrow (own_ne OW6 (.inr (by omega))); have X1 := X8.app hgrow X8n; have gw1 : G w w1 := G.app (gr.trans gW) hgrow (fun k hk => by have := own_ge OW6 hk; omega); obtain ⟨⟨s0, s1⟩, sf0, sf1⟩ := id B1; obtain ⟨⟨t0, t1⟩, tf0, tf1⟩ := id X1))
            go_roundg (20 - (i + 1))
            case measure => have := HG.out; omega
            case rel => exact ⟨i + 1, v', L ++ [(N1, O1)], N, O, E, rfl, rfl, by first | rfl | simp, rfl, by omega, by omega, by simp [hL], Lib.hid (fun p hp => by rcases List.mem_append.1 hp with h | h; exact hC.out p h; simp at h; subst h; exact hN1), HS2, by rw [flat2_more, List.length_append]; exact hown', B1, gw1⟩
        · have hsz := g2.size
          have hsw := gr.size
          have X7 := By2.new (w2.alloc (.cells #[.int .i64 N1, .int .i64 (O1 + 1)] 25)) N1 O1 27
          have X8 := (By2.new w2 N1 (O1 + 1) 25).later (G.alloc (G.refl _) (.cells #[.int .i64 N1, .int .i64 O1] 27))
          have gW : G wr ((w2.alloc (.cells #[.int .i64 N1, .int .i64 (O1 + 1)] 25)).alloc (.cells #[.int .i64 N1, .int .i64 O1] 27)) := by (repeat' (first | (with_reducible exact G.refl _) | (with_reducible assumption) | (with_reducible refine G.drewN ?_ _) | (with_reducible refine G.drew ?_) | (with_reducible refine G.alloc ?_ _) | (with_reducible refine G.setCell ?_ (by first | (with_reducible exact Nat.le_refl _) | (simp; done) | (simp; omega) | omega) _) | (with_reducible refine G.trans ?_ (by assumption))))
          have X8n := own_ne HOW.out (b := w2.heap.size) (.inl (by omega))
          rw [show (w2.alloc (.cells #[.int .i64 N1, .int .i64 (O1 + 1)] 25)).heap.size = w2.heap.size + 1 from by simp] at X7
          (try clear zg0 zg1 p0 p1 pf0 pf1)
          (try clear zh0 zh1 r0 r1 rf0 rf1)
          (try clear y0 y1 x0 x1 m1 m2 m3 n1 n2 n3)
          (try clear zl)
          (try clear zm)
          (try clear Z1)
          (try clear Z2)
          (try clear hG)
          generalize ((w2.alloc (.cells #[.int .i64 N1, .int .i64 (O1 + 1)] 25)).alloc (.cells #[.int .i64 N1, .int .i64 O1] 27)) = W6 at *
          have hs6 := gW.size
          have OW6 := own_later HOW.out gW
          have B6 := HB4.out.later gW
          obtain ⟨⟨c0, c1⟩, cf0, cf1⟩ := X7
          by_cases hE0 : E = 0
          · have hN : Cn N O := by
              have := sum_fine L
              rw [hS.out] at this
              rcases this with ⟨_, z⟩ | ⟨z, _⟩
              · exact z
              · exact absurd hE0 z
            subst hE0
            obtain ⟨A, HA⟩ : ∃ A : Int, Hid (A = N * (O1 + 1) + N1 * (O + 1)) := ⟨_, rfl⟩
            obtain ⟨B, HB⟩ : ∃ B : Int, Hid (B = (O + 1) * (O1 + 1)) := ⟨_, rfl⟩
            have HS2 := Lib.hid (show sumS (L ++ [(N1, O1)]) = (oN A B, oD A B - 1, oE A B) by
              rw [sum_more, hS.out]
              unfold st
              rw [if_pos rfl]
              rw [show sA (N, O, 0) (N1, O1) = A from HA.out.symm, show sB (N, O, 0) (N1, O1) = B from HB.out.symm])
            go_wp2_with ((at_builtin; refine wpList_append_own _ rfl _ _ 23 rfl (k2 + 1) 27 i0 (.agg #[.int .i64 0, .int .i64 0]) 2 16 Tryd.underlying23 hi hz0 hz1 hz2 rfl (by decide) v L.length (flat2 L) rfl (own_later OW6 (by (repeat' (first | (with_reducible exact G.refl _) | (with_reducible assumption) | (with_reducible refine G.drewN ?_ _) | (with_reducible refine G.drew ?_) | (with_reducible refine G.alloc ?_ _) | (with_reducible refine G.setCell ?_ (by first | (with_reducible exact Nat.le_refl _) | (simp; done) | (simp; omega) | omega) _) | (with_reducible refine G.trans ?_ (by assumption)))))) ⟨W6.heap.size, 0, none⟩ 1 1 (cells2 (N1, O1)) rfl rfl (cell_two_new _ _ _ _ _ (by simp)) (by simp [cells2, Value.oneCell']) (by unfold maxLen; omega) (by omega) (by simp; omega) ?_; intro v' w1 hown' hgrow _; have B1 := B6.app hgrow (own_ne OW6 (.inr (by omega))); have X1 := X8.app hgrow X8n; have gw1 : G w w1 := G.app (gr.trans gW) hgrow (fun k hk => by have := own_ge OW6 hk; omega); obtain ⟨⟨s0, s1⟩, sf0, sf1⟩ := id B1; obtain ⟨⟨t0, t1⟩, tf0, tf1⟩ := id X1))
            refine (rAdd_any N O N1 O1 _ hN hN1).mono ?_
            rintro e w5 ⟨rfl, hG5⟩
            rw [← HA.out, ← HB.out]
            have B5 := B1.later hG5
            clear s0 s1 sf0 sf1 t0 t1 tf0 tf1
            obtain ⟨⟨s0, s1⟩, sf0, sf1⟩ := id B5
            have gz : G w ((w5.setCell ⟨k2, 0, none⟩ (.int .i64 (oN A B))).setCell ⟨k2, 1, none⟩ (.int .i64 (oD A B))) := ((gw1.trans hG5).setCell (by show w.heap.size ≤ k2; omega) _).setCell (by show w.heap.size ≤ k2; omega) _
            have B7 := B5.set (oN A B) (oD A B)
            have O7 := own_set (own_set (own_later hown' hG5) (b := k2) (by omega) 0 (.int .i64 (oN A B))) (b := k2) (by omega) 1 (.int .i64 (oD A B))
            go_wp2_with fail
            go_roundg (20 - (i + 1))
            case measure => have := HG.out; omega
            case rel => exact ⟨i + 1, v', L ++ [(N1, O1)], oN A B, oD A B - 1, oE A B, rfl, rfl, by first | rfl | simp, rfl, by omega, by omega, by simp [hL], Lib.hid (fun p hp => by rcases List.mem_append.1 hp with h | h; exact hC.out p h; simp at h; subst h; exact hN1), HS2, by rw [flat2_more, List.length_append]; exact O7, by rw [Int.sub_add_cancel]; exact B7, gz⟩
          · have k1 : (E == 0) = false := beq_false_of_ne hE0
            have HS2 := Lib.hid (show sumS (L ++ [(N1, O1)]) = (N, O, E) by
              rw [sum_more, hS.out]
              exact if_neg hE0)
            clear hE0
            go_wp2_with ((at_builtin; refine wpList_append_own _ rfl _ _ 23 rfl (k2 + 1) 27 i0 (.agg #[.int .i64 0, .int .i64 0]) 2 16 Tryd.underlying23 hi hz0 hz1 hz2 rfl (by decide) v L.length (flat2 L) rfl (own_later OW6 (by (repeat' (first | (with_reducible exact G.refl _) | (with_reducible assumption) | (with_reducible refine G.drewN ?_ _) | (with_reducible refine G.drew ?_) | (with_reducible refine G.alloc ?_ _) | (with_reducible refine G.setCell ?_ (by first | (with_reducible exact Nat.le_refl _) | (simp; done) | (simp; omega) | omega) _) | (with_reducible refine G.trans ?_ (by assumption)))))) ⟨W6.heap.size, 0, none⟩ 1 1 (cells2 (N1, O1)) rfl rfl (cell_two_new _ _ _ _ _ (by simp)) (by simp [cells2, Value.oneCell']) (by unfold maxLen; omega) (by omega) (by simp; omega) ?_; intro v' w1 hown' hgrow _; have B1 := B6.app hgrow (own_ne OW6 (.inr (by omega))); have X1 := X8.app hgrow X8n; have gw1 : G w w1 := G.app (gr.trans gW) hgrow (fun k hk => by have := own_ge OW6 hk; omega); obtain ⟨⟨s0, s1⟩, sf0, sf1⟩ := id B1; obtain ⟨⟨t0, t1⟩, tf0, tf1⟩ := id X1))
            go_roundg (20 - (i + 1))
            case measure => have := HG.out; omega
            case rel => exact ⟨i + 1, v', L ++ [(N1, O1)], N, O, E, rfl, rfl, by first | rfl | simp, rfl, by omega, by omega, by simp [hL], Lib.hid (fun p hp => by rcases List.mem_append.1 hp with h | h; exact hC.out p h; simp at h; subst h; exact hN1), HS2, by rw [flat2_more, List.length_append]; exact hown', B1, gw1⟩
        · have hsz := g2.size
          have hsw := gr.size
          have X7 := (Z1.out.set N1 O1).later (G.alloc (G.refl _) (.cells #[.int .i64 N1, .int .i64 (O1 + 1)] 25))
          have X8 := By2.new ((w2.setCell ⟨wr.heap.size, 0, none⟩ (.int .i64 N1)).setCell ⟨wr.heap.size, 1, none⟩ (.int .i64 O1)) N1 (O1 + 1) 25
          have gW : G wr (((w2.setCell ⟨wr.heap.size, 0, none⟩ (.int .i64 N1)).setCell ⟨wr.heap.size, 1, none⟩ (.int .i64 O1)).alloc (.cells #[.int .i64 N1, .int .i64 (O1 + 1)] 25)) := by (repeat' (first | (with_reducible exact G.refl _) | (with_reducible assumption) | (with_reducible refine G.drewN ?_ _) | (with_reducible refine G.drew ?_) | (with_reducible refine G.alloc ?_ _) | (with_reducible refine G.setCell ?_ (by first | (with_reducible exact Nat.le_refl _) | (simp; done) | (simp; omega) | omega) _) | (with_reducible refine G.trans ?_ (by assumption))))
          have X8n := own_ne HOW.out (b := w2.heap.size) (.inl (by omega))
          rw [show ((w2.setCell ⟨wr.heap.size, 0, none⟩ (.int .i64 N1)).setCell ⟨wr.heap.size, 1, none⟩ (.int .i64 O1)).heap.size = w2.heap.size from by simp] at X8
          (try clear zg0 zg1 p0 p1 pf0 pf1)
          (try clear zh0 zh1 r0 r1 rf0 rf1)
          (try clear y0 y1 x0 x1 m1 m2 m3 n1 n2 n3)
          (try clear zl)
          (try clear zm)
          (try clear Z1)
          (try clear Z2)
          (try clear hG)
          generalize (((w2.setCell ⟨wr.heap.size, 0, none⟩ (.int .i64 N1)).setCell ⟨wr.heap.size, 1, none⟩ (.int .i64 O1)).alloc (.cells #[.int .i64 N1, .int .i64 (O1 + 1)] 25)) = W6 at *
          have hs6 := gW.size
          have OW6 := own_later HOW.out gW
          have B6 := HB4.out.later gW
          obtain ⟨⟨c0, c1⟩, cf0, cf1⟩ := X7
          by_cases hE0 : E = 0
          · have hN : Cn N O := by
              have := sum_fine L
              rw [hS.out] at this
              rcases this with ⟨_, z⟩ | ⟨z, _⟩
              · exact z
              · exact absurd hE0 z
            subst hE0
            obtain ⟨A, HA⟩ : ∃ A : Int, Hid (A = N * (O1 + 1) + N1 * (O + 1)) := ⟨_, rfl⟩
            obtain ⟨B, HB⟩ : ∃ B : Int, Hid (B = (O + 1) * (O1 + 1)) := ⟨_, rfl⟩
            have HS2 := Lib.hid (show sumS (L ++ [(N1, O1)]) = (oN A B, oD A B - 1, oE A B) by
              rw [sum_more, hS.out]
              unfold st
              rw [if_pos rfl]
              rw [show sA (N, O, 0) (N1, O1) = A from HA.out.symm, show sB (N, O, 0) (N1, O1) = B from HB.out.symm])
            go_wp2_with ((at_builtin; refine wpList_append_own _ rfl _ _ 23 rfl (k2 + 1) 27 i0 (.agg #[.int .i64 0, .int .i64 0]) 2 16 Tryd.underlying23 hi hz0 hz1 hz2 rfl (by decide) v L.length (flat2 L) rfl (own_later OW6 (by (repeat' (first | (with_reducible exact G.refl _) | (with_reducible assumption) | (with_reducible refine G.drewN ?_ _) | (with_reducible refine G.drew ?_) | (with_reducible refine G.alloc ?_ _) | (with_reducible refine G.setCell ?_ (by first | (with_reducible exact Nat.le_refl _) | (simp; done) | (simp; omega) | omega) _) | (with_reducible refine G.trans ?_ (by assumption)))))) ⟨W6.heap.size, 0, none⟩ 1 1 (cells2 (N1, O1)) rfl rfl (cell_two_new _ _ _ _ _ (by simp)) (by simp [cells2, Value.oneCell']) (by unfold maxLen; omega) (by omega) (by simp; omega) ?_; intro v' w1 hown' hgrow _; have B1 := B6.app hgrow (own_ne OW6 (.inr (by omega))); have X1 := X8.app hgrow X8n; have gw1 : G w w1 := G.app (gr.trans gW) hgrow (fun k hk => by have := own_ge OW6 hk; omega); obtain ⟨⟨s0, s1⟩, sf0, sf1⟩ := id B1; obtain ⟨⟨t0, t1⟩, tf0, tf1⟩ := id X1))
            refine (rAdd_any N O N1 O1 _ hN hN1).mono ?_
            rintro e w5 ⟨rfl, hG5⟩
            rw [← HA.out, ← HB.out]
            have B5 := B1.later hG5
            clear s0 s1 sf0 sf1 t0 t1 tf0 tf1
            obtain ⟨⟨s0, s1⟩, sf0, sf1⟩ := id B5
            have gz : G w ((w5.setCell ⟨k2, 0, none⟩ (.int .i64 (oN A B))).setCell ⟨k2, 1, none⟩ (.int .i64 (oD A B))) := ((gw1.trans hG5).setCell (by show w.heap.size ≤ k2; omega) _).setCell (by show w.heap.size ≤ k2; omega) _
            have B7 := B5.set (oN A B) (oD A B)
            have O7 := own_set (own_set (own_later hown' hG5) (b := k2) (by omega) 0 (.int .i64 (oN A B))) (b := k2) (by omega) 1 (.int .i64 (oD A B))
            go_wp2_with fail
            go_roundg (20 - (i + 1))
            case measure => have := HG.out; omega
            case rel => exact ⟨i + 1, v', L ++ [(N1, O1)], oN A B, oD A B - 1, oE A B, rfl, rfl, by first | rfl | simp, rfl, by omega, by omega, by simp [hL], Lib.hid (fun p hp => by rcases List.mem_append.1 hp with h | h; exact hC.out p h; simp at h; subst h; exact hN1), HS2, by rw [flat2_more, List.length_append]; exact O7, by rw [Int.sub_add_cancel]; exact B7, gz⟩
          · have k1 : (E == 0) = false := beq_false_of_ne hE0
            have HS2 := Lib.hid (show sumS (L ++ [(N1, O1)]) = (N, O, E) by
              rw [sum_more, hS.out]
              exact if_neg hE0)
            clear hE0
            go_wp2_with ((at_builtin; refine wpList_append_own _ rfl _ _ 23 rfl (k2 + 1) 27 i0 (.agg #[.int .i64 0, .int .i64 0]) 2 16 Tryd.underlying23 hi hz0 hz1 hz2 rfl (by decide) v L.length (flat2 L) rfl (own_later OW6 (by (repeat' (first | (with_reducible exact G.refl _) | (with_reducible assumption) | (with_reducible refine G.drewN ?_ _) | (with_reducible refine G.drew ?_) | (with_reducible refine G.alloc ?_ _) | (with_reducible refine G.setCell ?_ (by first | (with_reducible exact Nat.le_refl _) | (simp; done) | (simp; omega) | omega) _) | (with_reducible refine G.trans ?_ (by assumption)))))) ⟨W6.heap.size, 0, none⟩ 1 1 (cells2 (N1, O1)) rfl rfl (cell_two_new _ _ _ _ _ (by simp)) (by simp [cells2, Value.oneCell']) (by unfold maxLen; omega) (by omega) (by simp; omega) ?_; intro v' w1 hown' hgrow _; have B1 := B6.app hgrow (own_ne OW6 (.inr (by omega))); have X1 := X8.app hgrow X8n; have gw1 : G w w1 := G.app (gr.trans gW) hgrow (fun k hk => by have := own_ge OW6 hk; omega); obtain ⟨⟨s0, s1⟩, sf0, sf1⟩ := id B1; obtain ⟨⟨t0, t1⟩, tf0, tf1⟩ := id X1))
            go_roundg (20 - (i + 1))
            case measure => have := HG.out; omega
            case rel => exact ⟨i + 1, v', L ++ [(N1, O1)], N, O, E, rfl, rfl, by first | rfl | simp, rfl, by omega, by omega, by simp [hL], Lib.hid (fun p hp => by rcases List.mem_append.1 hp with h | h; exact hC.out p h; simp at h; subst h; exact hN1), HS2, by rw [flat2_more, List.length_append]; exact hown', B1, gw1⟩
        · have hsz := g2.size
          have hsw := gr.size
          have X7 := ((Z2.out.set N1 O1).other (b := wr.heap.size + 1) (by omega) 0 (.int .i64 N1)).other (b := wr.heap.size + 1) (by omega) 1 (.int .i64 (O1 + 1))
          have X8 := ((Z1.out.other (b := wr.heap.size) (by omega) 0 (.int .i64 N1)).other (b := wr.heap.size) (by omega) 1 (.int .i64 O1)).set N1 (O1 + 1)
          have gW : G wr ((((w2.setCell ⟨wr.heap.size, 0, none⟩ (.int .i64 N1)).setCell ⟨wr.heap.size, 1, none⟩ (.int .i64 O1)).setCell ⟨wr.heap.size + 1, 0, none⟩ (.int .i64 N1)).setCell ⟨wr.heap.size + 1, 1, none⟩ (.int .i64 (O1 + 1))) := by (repeat' (first | (with_reducible exact G.refl _) | (with_reducible assumption) | (with_reducible refine G.drewN ?_ _) | (with_reducible refine G.drew ?_) | (with_reducible refine G.alloc ?_ _) | (with_reducible refine G.setCell ?_ (by first | (with_reducible exact Nat.le_refl _) | (simp; done) | (simp; omega) | omega) _) | (with_reducible refine G.trans ?_ (by assumption))))
          have X8n := own_ne HOW.out (b := wr.heap.size + 1) (.inl (by omega))
          skip
          (try clear zg0 zg1 p0 p1 pf0 pf1)
          (try clear zh0 zh1 r0 r1 rf0 rf1)
          (try clear y0 y1 x0 x1 m1 m2 m3 n1 n2 n3)
          (try clear zl)
          (try clear zm)
          (try clear Z1)
          (try clear Z2)
          (try clear hG)
          generalize ((((w2.setCell ⟨wr.heap.size, 0, none⟩ (.int .i64 N1)).setCell ⟨wr.heap.size, 1, none⟩ (.int .i64 O1)).setCell ⟨wr.heap.size + 1, 0, none⟩ (.int .i64 N1)).setCell ⟨wr.heap.size + 1, 1, none⟩ (.int .i64 (O1 + 1))) = W6 at *
          have hs6 := gW.size
          have OW6 := own_later HOW.out gW
          have B6 := HB4.out.later gW
          obtain ⟨⟨c0, c1⟩, cf0, cf1⟩ := X7
          by_cases hE0 : E = 0
          · have hN : Cn N O := by
              have := sum_fine L
              rw [hS.out] at this
              rcases this with ⟨_, z⟩ | ⟨z, _⟩
              · exact z
              · exact absurd hE0 z
            subst hE0
            obtain ⟨A, HA⟩ : ∃ A : Int, Hid (A = N * (O1 + 1) + N1 * (O + 1)) := ⟨_, rfl⟩
            obtain ⟨B, HB⟩ : ∃ B : Int, Hid (B = (O + 1) * (O1 + 1)) := ⟨_, rfl⟩
            have HS2 := Lib.hid (show sumS (L ++ [(N1, O1)]) = (oN A B, oD A B - 1, oE A B) by
              rw [sum_more, hS.out]
              unfold st
              rw [if_pos rfl]
              rw [show sA (N, O, 0) (N1, O1) = A from HA.out.symm, show sB (N, O, 0) (N1, O1) = B from HB.out.symm])
            go_wp2_with ((at_builtin; refine wpList_append_own _ rfl _ _ 23 rfl (k2 + 1) 27 i0 (.agg #[.int .i64 0, .int .i64 0]) 2 16 Tryd.underlying23 hi hz0 hz1 hz2 rfl (by decide) v L.length (flat2 L) rfl (own_later OW6 (by (repeat' (first | (with_reducible exact G.refl _) | (with_reducible assumption) | (with_reducible refine G.drewN ?_ _) | (with_reducible refine G.drew ?_) | (with_reducible refine G.alloc ?_ _) | (with_reducible refine G.setCell ?_ (by first | (with_reducible exact Nat.le_refl _) | (simp; done) | (simp; omega) | omega) _) | (with_reducible refine G.trans ?_ (by assumption)))))) ⟨W6.heap.size, 0, none⟩ 1 1 (cells2 (N1, O1)) rfl rfl (cell_two_new _ _ _ _ _ (by simp)) (by simp [cells2, Value.oneCell']) (by unfold maxLen; omega) (by omega) (by simp; omega) ?_; intro v' w1 hown' hgrow _; have B1 := B6.app hgrow (own_ne OW6 (.inr (by omega))); have X1 := X8.app hgrow X8n; have gw1 : G w w1 := G.app (gr.trans gW) hgrow (fun k hk => by have := own_ge OW6 hk; omega); obtain ⟨⟨s0, s1⟩, sf0, sf1⟩ := id B1; obtain ⟨⟨t0, t1⟩, tf0, tf1⟩ := id X1))
            refine (rAdd_any N O N1 O1 _ hN hN1).mono ?_
            rintro e w5 ⟨rfl, hG5⟩
            rw [← HA.out, ← HB.out]
            have B5 := B1.later hG5
            clear s0 s1 sf0 sf1 t0 t1 tf0 tf1
            obtain ⟨⟨s0, s1⟩, sf0, sf1⟩ := id B5
            have gz : G w ((w5.setCell ⟨k2, 0, none⟩ (.int .i64 (oN A B))).setCell ⟨k2, 1, none⟩ (.int .i64 (oD A B))) := ((gw1.trans hG5).setCell (by show w.heap.size ≤ k2; omega) _).setCell (by show w.heap.size ≤ k2; omega) _
            have B7 := B5.set (oN A B) (oD A B)
            have O7 := own_set (own_set (own_later hown' hG5) (b := k2) (by omega) 0 (.int .i64 (oN A B))) (b := k2) (by omega) 1 (.int .i64 (oD A B))
            go_wp2_with fail
            go_roundg (20 - (i + 1))
            case measure => have := HG.out; omega
            case rel => exact ⟨i + 1, v', L ++ [(N1, O1)], oN A B, oD A B - 1, oE A B, rfl, rfl, by first | rfl | simp, rfl, by omega, by omega, by simp [hL], Lib.hid (fun p hp => by rcases List.mem_append.1 hp with h | h; exact hC.out p h; simp at h; subst h; exact hN1), HS2, by rw [flat2_more, List.length_append]; exact O7, by rw [Int.sub_add_cancel]; exact B7, gz⟩
          · have k1 : (E == 0) = false := beq_false_of_ne hE0
            have HS2 := Lib.hid (show sumS (L ++ [(N1, O1)]) = (N, O, E) by
              rw [sum_more, hS.out]
              exact if_neg hE0)
            clear hE0
            go_wp2_with ((at_builtin; refine wpList_append_own _ rfl _ _ 23 rfl (k2 + 1) 27 i0 (.agg #[.int .i64 0, .int .i64 0]) 2 16 Tryd.underlying23 hi hz0 hz1 hz2 rfl (by decide) v L.length (flat2 L) rfl (own_later OW6 (by (repeat' (first | (with_reducible exact G.refl _) | (with_reducible assumption) | (with_reducible refine G.drewN ?_ _) | (with_reducible refine G.drew ?_) | (with_reducible refine G.alloc ?_ _) | (with_reducible refine G.setCell ?_ (by first | (with_reducible exact Nat.le_refl _) | (simp; done) | (simp; omega) | omega) _) | (with_reducible refine G.trans ?_ (by assumption)))))) ⟨W6.heap.size, 0, none⟩ 1 1 (cells2 (N1, O1)) rfl rfl (cell_two_new _ _ _ _ _ (by simp)) (by simp [cells2, Value.oneCell']) (by unfold maxLen; omega) (by omega) (by simp; omega) ?_; intro v' w1 hown' hgrow _; have B1 := B6.app hgrow (own_ne OW6 (.inr (by omega))); have X1 := X8.app hgrow X8n; have gw1 : G w w1 := G.app (gr.trans gW) hgrow (fun k hk => by have := own_ge OW6 hk; omega); obtain ⟨⟨s0, s1⟩, sf0, sf1⟩ := id B1; obtain ⟨⟨t0, t1⟩, tf0, tf1⟩ := id X1))
            go_roundg (20 - (i + 1))
            case measure => have := HG.out; omega
            case rel => exact ⟨i + 1, v', L ++ [(N1, O1)], N, O, E, rfl, rfl, by first | rfl | simp, rfl, by omega, by omega, by simp [hL], Lib.hid (fun p hp => by rcases List.mem_append.1 hp with h | h; exact hC.out p h; simp at h; subst h; exact hN1), HS2, by rw [flat2_more, List.length_append]; exact hown', B1, gw1⟩
        · have hsz := g2.size
          have hsw := gr.size
          have X7 := By2.new ((w2.setCell ⟨wr.heap.size, 0, none⟩ (.int .i64 N1)).setCell ⟨wr.heap.size, 1, none⟩ (.int .i64 (O1 + 1))) N1 O1 27
          have X8 := (Z1.out.set N1 (O1 + 1)).later (G.alloc (G.refl _) (.cells #[.int .i64 N1, .int .i64 O1] 27))
          have gW : G wr (((w2.setCell ⟨wr.heap.size, 0, none⟩ (.int .i64 N1)).setCell ⟨wr.heap.size, 1, none⟩ (.int .i64 (O1 + 1))).alloc (.cells #[.int .i64 N1, .int .i64 O1] 27)) := by (repeat' (first | (with_reducible exact G.refl _) | (with_reducible assumption) | (with_reducible refine G.drewN ?_ _) | (with_reducible refine G.drew ?_) | (with_reducible refine G.alloc ?_ _) | (with_reducible refine G.setCell ?_ (by first | (with_reducible exact Nat.le_refl _) | (simp; done) | (simp; omega) | omega) _) | (with_reducible refine G.trans ?_ (by assumption))))
          have X8n := own_ne HOW.out (b := wr.heap.size) (.inl (by omega))
          rw [show ((w2.setCell ⟨wr.heap.size, 0, none⟩ (.int .i64 N1)).setCell ⟨wr.heap.size, 1, none⟩ (.int .i64 (O1 + 1))).heap.size = w2.heap.size from by simp] at X7
          (try clear zg0 zg1 p0 p1 pf0 pf1)
          (try clear zh0 zh1 r0 r1 rf0 rf1)
          (try clear y0 y1 x0 x1 m1 m2 m3 n1 n2 n3)
          (try clear zl)
          (try clear zm)
          (try clear Z1)
          (try clear Z2)
          (try clear hG)
          generalize (((w2.setCell ⟨wr.heap.size, 0, none⟩ (.int .i64 N1)).setCell ⟨wr.heap.size, 1, none⟩ (.int .i64 (O1 + 1))).alloc (.cells #[.int .i64 N1, .int .i64 O1] 27)) = W6 at *
          have hs6 := gW.size
          have OW6 := own_later HOW.out gW
          have B6 := HB4.out.later gW
          obtain ⟨⟨c0, c1⟩, cf0, cf1⟩ := X7
          by_cases hE0 : E = 0
          · have hN : Cn N O := by
              have := sum_fine L
              rw [hS.out] at this
              rcases this with ⟨_, z⟩ | ⟨z, _⟩
              · exact z
              · exact absurd hE0 z
            subst hE0
            obtain ⟨A, HA⟩ : ∃ A : Int, Hid (A = N * (O1 + 1) + N1 * (O + 1)) := ⟨_, rfl⟩
            obtain ⟨B, HB⟩ : ∃ B : Int, Hid (B = (O + 1) * (O1 + 1)) := ⟨_, rfl⟩
            have HS2 := Lib.hid (show sumS (L ++ [(N1, O1)]) = (oN A B, oD A B - 1, oE A B) by
              rw [sum_more, hS.out]
              unfold st
              rw [if_pos rfl]
              rw [show sA (N, O, 0) (N1, O1) = A from HA.out.symm, show sB (N, O, 0) (N1, O1) = B from HB.out.symm])
            go_wp2_with ((at_builtin; refine wpList_append_own _ rfl _ _ 23 rfl (k2 + 1) 27 i0 (.agg #[.int .i64 0, .int .i64 0]) 2 16 Tryd.underlying23 hi hz0 hz1 hz2 rfl (by decide) v L.length (flat2 L) rfl (own_later OW6 (by (repeat' (first | (with_reducible exact G.refl _) | (with_reducible assumption) | (with_reducible refine G.drewN ?_ _) | (with_reducible refine G.drew ?_) | (with_reducible refine G.alloc ?_ _) | (with_reducible refine G.setCell ?_ (by first | (with_reducible exact Nat.le_refl _) | (simp; done) | (simp; omega) | omega) _) | (with_reducible refine G.trans ?_ (by assumption)))))) ⟨W6.heap.size, 0, none⟩ 1 1 (cells2 (N1, O1)) rfl rfl (cell_two_new _ _ _ _ _ (by simp)) (by simp [cells2, Value.oneCell']) (by unfold maxLen; omega) (by omega) (by simp; omega) ?_; intro v' w1 hown' hgrow _; have B1 := B6.app hgrow (own_ne OW6 (.inr (by omega))); have X1 := X8.app hgrow X8n; have gw1 : G w w1 := G.app (gr.trans gW) hgrow (fun k hk => by have := own_ge OW6 hk; omega); obtain ⟨⟨s0, s1⟩, sf0, sf1⟩ := id B1; obtain ⟨⟨t0, t1⟩, tf0, tf1⟩ := id X1))
            refine (rAdd_any N O N1 O1 _ hN hN1).mono ?_
            rintro e w5 ⟨rfl, hG5⟩
            rw [← HA.out, ← HB.out]
            have B5 := B1.later hG5
            clear s0 s1 sf0 sf1 t0 t1 tf0 tf1
            obtain ⟨⟨s0, s1⟩, sf0, sf1⟩ := id B5
            have gz : G w ((w5.setCell ⟨k2, 0, none⟩ (.int .i64 (oN A B))).setCell ⟨k2, 1, none⟩ (.int .i64 (oD A B))) := ((gw1.trans hG5).setCell (by show w.heap.size ≤ k2; omega) _).setCell (by show w.heap.size ≤ k2; omega) _
            have B7 := B5.set (oN A B) (oD A B)
            have O7 := own_set (own_set (own_later hown' hG5) (b := k2) (by omega) 0 (.int .i64 (oN A B))) (b := k2) (by omega) 1 (.int .i64 (oD A B))
            go_wp2_with fail
            go_roundg (20 - (i + 1))
            case measure => have := HG.out; omega
            case rel => exact ⟨i + 1, v', L ++ [(N1, O1)], oN A B, oD A B - 1, oE A B, rfl, rfl, by first | rfl | simp, rfl, by omega, by omega, by simp [hL], Lib.hid (fun p hp => by rcases List.mem_append.1 hp with h | h; exact hC.out p h; simp at h; subst h; exact hN1), HS2, by rw [flat2_more, List.length_append]; exact O7, by rw [Int.sub_add_cancel]; exact B7, gz⟩
          · have k1 : (E == 0) = false := beq_false_of_ne hE0
            have HS2 := Lib.hid (show sumS (L ++ [(N1, O1)]) = (N, O, E) by
              rw [sum_more, hS.out]
              exact if_neg hE0)
            clear hE0
            go_wp2_with ((at_builtin; refine wpList_append_own _ rfl _ _ 23 rfl (k2 + 1) 27 i0 (.agg #[.int .i64 0, .int .i64 0]) 2 16 Tryd.underlying23 hi hz0 hz1 hz2 rfl (by decide) v L.length (flat2 L) rfl (own_later OW6 (by (repeat' (first | (with_reducible exact G.refl _) | (with_reducible assumption) | (with_reducible refine G.drewN ?_ _) | (with_reducible refine G.drew ?_) | (with_reducible refine G.alloc ?_ _) | (with_reducible refine G.setCell ?_ (by first | (with_reducible exact Nat.le_refl _) | (simp; done) | (simp; omega) | omega) _) | (with_reducible refine G.trans ?_ (by assumption)))))) ⟨W6.heap.size, 0, none⟩ 1 1 (cells2 (N1, O1)) rfl rfl (cell_two_new _ _ _ _ _ (by simp)) (by simp [cells2, Value.oneCell']) (by unfold maxLen; omega) (by omega) (by simp; omega) ?_; intro v' w1 hown' hgrow _; have B1 := B6.app hgrow (own_ne OW6 (.inr (by omega))); have X1 := X8.app hgrow X8n; have gw1 : G w w1 := G.app (gr.trans gW) hgrow (fun k hk => by have := own_ge OW6 hk; omega); obtain ⟨⟨s0, s1⟩, sf0, sf1⟩ := id B1; obtain ⟨⟨t0, t1⟩, tf0, tf1⟩ := id X1))
            go_roundg (20 - (i + 1))
            case measure => have := HG.out; omega
            case rel => exact ⟨i + 1, v', L ++ [(N1, O1)], N, O, E, rfl, rfl, by first | rfl | simp, rfl, by omega, by omega, by simp [hL], Lib.hid (fun p hp => by rcases List.mem_append.1 hp with h | h; exact hC.out p h; simp at h; subst h; exact hN1), HS2, by rw [flat2_more, List.length_append]; exact hown', B1, gw1⟩
        · have hsz := g2.size
          have hsw := gr.size
          have X7 := ((Z1.out.set N1 O1).other (b := wr.heap.size) (by omega) 0 (.int .i64 N1)).other (b := wr.heap.size) (by omega) 1 (.int .i64 (O1 + 1))
          have X8 := ((Z2.out.other (b := wr.heap.size + 1) (by omega) 0 (.int .i64 N1)).other (b := wr.heap.size + 1) (by omega) 1 (.int .i64 O1)).set N1 (O1 + 1)
          have gW : G wr ((((w2.setCell ⟨wr.heap.size + 1, 0, none⟩ (.int .i64 N1)).setCell ⟨wr.heap.size + 1, 1, none⟩ (.int .i64 O1)).setCell ⟨wr.heap.size, 0, none⟩ (.int .i64 N1)).setCell ⟨wr.heap.size, 1, none⟩ (.int .i64 (O1 + 1))) := by (repeat' (first | (with_reducible exact G.refl _) | (with_reducible assumption) | (with_reducible refine G.drewN ?_ _) | (with_reducible refine G.drew ?_) | (with_reducible refine G.alloc ?_ _) | (with_reducible refine G.setCell ?_ (by first | (with_reducible exact Nat.le_refl _) | (simp; done) | (simp; omega) | omega) _) | (with_reducible refine G.trans ?_ (by assumption))))
          have X8n := own_ne HOW.out (b := wr.heap.size) (.inl (by omega))
          skip
          (try clear zg0 zg1 p0 p1 pf0 pf1)
          (try clear zh0 zh1 r0 r1 rf0 rf1)
          (try clear y0 y1 x0 x1 m1 m2 m3 n1 n2 n3)
          (try clear zl)
          (try clear zm)
          (try clear Z1)
          (try clear Z2)
          (try clear hG)
          generalize ((((w2.setCell ⟨wr.heap.size + 1, 0, none⟩ (.int .i64 N1)).setCell ⟨wr.heap.size + 1, 1, none⟩ (.int .i64 O1)).setCell ⟨wr.heap.size, 0, none⟩ (.int .i64 N1)).setCell ⟨wr.heap.size, 1, none⟩ (.int .i64 (O1 + 1))) = W6 at *
          have hs6 := gW.size
          have OW6 := own_later HOW.out gW
          have B6 := HB4.out.later gW
          obtain ⟨⟨c0, c1⟩, cf0, cf1⟩ := X7
          by_cases hE0 : E = 0
          · have hN : Cn N O := by
              have := sum_fine L
              rw [hS.out] at this
              rcases this with ⟨_, z⟩ | ⟨z, _⟩
              · exact z
              · exact absurd hE0 z
            subst hE0
            obtain ⟨A, HA⟩ : ∃ A : Int, Hid (A = N * (O1 + 1) + N1 * (O + 1)) := ⟨_, rfl⟩
            obtain ⟨B, HB⟩ : ∃ B : Int, Hid (B = (O + 1) * (O1 + 1)) := ⟨_, rfl⟩
            have HS2 := Lib.hid (show sumS (L ++ [(N1, O1)]) = (oN A B, oD A B - 1, oE A B) by
              rw [sum_more, hS.out]
              unfold st
              rw [if_pos rfl]
              rw [show sA (N, O, 0) (N1, O1) = A from HA.out.symm, show sB (N, O, 0) (N1, O1) = B from HB.out.symm])
            go_wp2_with ((at_builtin; refine wpList_append_own _ rfl _ _ 23 rfl (k2 + 1) 27 i0 (.agg #[.int .i64 0, .int .i64 0]) 2 16 Tryd.underlying23 hi hz0 hz1 hz2 rfl (by decide) v L.length (flat2 L) rfl (own_later OW6 (by (repeat' (first | (with_reducible exact G.refl _) | (with_reducible assumption) | (with_reducible refine G.drewN ?_ _) | (with_reducible refine G.drew ?_) | (with_reducible refine G.alloc ?_ _) | (with_reducible refine G.setCell ?_ (by first | (with_reducible exact Nat.le_refl _) | (simp; done) | (simp; omega) | omega) _) | (with_reducible refine G.trans ?_ (by assumption)))))) ⟨W6.heap.size, 0, none⟩ 1 1 (cells2 (N1, O1)) rfl rfl (cell_two_new _ _ _ _ _ (by simp)) (by simp [cells2, Value.oneCell']) (by unfold maxLen; omega) (by omega) (by simp; omega) ?_; intro v' w1 hown' hgrow _; have B1 := B6.app hgrow (own_ne OW6 (.inr (by omega))); have X1 := X8.app hgrow X8n; have gw1 : G w w1 := G.app (gr.trans gW) hgrow (fun k hk => by have := own_ge OW6 hk; omega); obtain ⟨⟨s0, s1⟩, sf0, sf1⟩ := id B1; obtain ⟨⟨t0, t1⟩, tf0, tf1⟩ := id X1))
            refine (rAdd_any N O N1 O1 _ hN hN1).mono ?_
            rintro e w5 ⟨rfl, hG5⟩
            rw [← HA.out, ← HB.out]
            have B5 := B1.later hG5
            clear s0 s1 sf0 sf1 t0 t1 tf0 tf1
            obtain ⟨⟨s0, s1⟩, sf0, sf1⟩ := id B5
            have gz : G w ((w5.setCell ⟨k2, 0, none⟩ (.int .i64 (oN A B))).setCell ⟨k2, 1, none⟩ (.int .i64 (oD A B))) := ((gw1.trans hG5).setCell (by show w.heap.size ≤ k2; omega) _).setCell (by show w.heap.size ≤ k2; omega) _
            have B7 := B5.set (oN A B) (oD A B)
            have O7 := own_set (own_set (own_later hown' hG5) (b := k2) (by omega) 0 (.int .i64 (oN A B))) (b := k2) (by omega) 1 (.int .i64 (oD A B))
            go_wp2_with fail
            go_roundg (20 - (i + 1))
            case measure => have := HG.out; omega
            case rel => exact ⟨i + 1, v', L ++ [(N1, O1)], oN A B, oD A B - 1, oE A B, rfl, rfl, by first | rfl | simp, rfl, by omega, by omega, by simp [hL], Lib.hid (fun p hp => by rcases List.mem_append.1 hp with h | h; exact hC.out p h; simp at h; subst h; exact hN1), HS2, by rw [flat2_more, List.length_append]; exact O7, by rw [Int.sub_add_cancel]; exact B7, gz⟩
          · have k1 : (E == 0) = false := beq_false_of_ne hE0
            have HS2 := Lib.hid (show sumS (L ++ [(N1, O1)]) = (N, O, E) by
              rw [sum_more, hS.out]
              exact if_neg hE0)
            clear hE0
            go_wp2_with ((at_builtin; refine wpList_append_own _ rfl _ _ 23 rfl (k2 + 1) 27 i0 (.agg #[.int .i64 0, .int .i64 0]) 2 16 Tryd.underlying23 hi hz0 hz1 hz2 rfl (by decide) v L.length (flat2 L) rfl (own_later OW6 (by (repeat' (first | (with_reducible exact G.refl _) | (with_reducible assumption) | (with_reducible refine G.drewN ?_ _) | (with_reducible refine G.drew ?_) | (with_reducible refine G.alloc ?_ _) | (with_reducible refine G.setCell ?_ (by first | (with_reducible exact Nat.le_refl _) | (simp; done) | (simp; omega) | omega) _) | (with_reducible refine G.trans ?_ (by assumption)))))) ⟨W6.heap.size, 0, none⟩ 1 1 (cells2 (N1, O1)) rfl rfl (cell_two_new _ _ _ _ _ (by simp)) (by simp [cells2, Value.oneCell']) (by unfold maxLen; omega) (by omega) (by simp; omega) ?_; intro v' w1 hown' hgrow _; have B1 := B6.app hgrow (own_ne OW6 (.inr (by omega))); have X1 := X8.app hgrow X8n; have gw1 : G w w1 := G.app (gr.trans gW) hgrow (fun k hk => by have := own_ge OW6 hk; omega); obtain ⟨⟨s0, s1⟩, sf0, sf1⟩ := id B1; obtain ⟨⟨t0, t1⟩, tf0, tf1⟩ := id X1))
            go_roundg (20 - (i + 1))
            case measure => have := HG.out; omega
            case rel => exact ⟨i + 1, v', L ++ [(N1, O1)], N, O, E, rfl, rfl, by first | rfl | simp, rfl, by omega, by omega, by simp [hL], Lib.hid (fun p hp => by rcases List.mem_append.1 hp with h | h; exact hC.out p h; simp at h; subst h; exact hN1), HS2, by rw [flat2_more, List.length_append]; exact hown', B1, gw1⟩
      · have hl20 : L.length ≤ 20 := by omega
        have HLn := Lib.hid hL
        obtain ⟨al, cl, rfl, FL⟩ := own_cells hown
        have hF := sum_fine L
        rw [hS.out] at hF
        have HF := Lib.hid (show (E = 0 ∨ (N = 0 ∧ O = 0 ∧ (E == 0) = false)) ∧ 0 ≤ O ∧ O ≤ 1073741823 by
          rcases hF with ⟨z, c⟩ | ⟨z, z1, z2⟩
          · exact ⟨.inl z, c.o1, c.o2⟩
          · exact ⟨.inr ⟨z1, z2, beq_false_of_ne z⟩, by show 0 ≤ O; simp only at z2; omega, by simp only at z2; omega⟩)
        clear hF hown
        go_wp2_with fail
        refine (Sum_any2 al L cl _ _ HLn.out hl20 FL hC.out).mono ?_
        rintro e w2 ⟨rfl, hG2⟩
        rw [hS.out]
        have gw2 : G w w2 := gr.trans hG2
        have B2 := B4.later hG2
        go_wp2_with fail
        refine (known_any _ (HT.out.later (G.trans gw2 (by (repeat' (first | (with_reducible exact G.refl _) | (with_reducible refine G.drewN ?_ _) | (with_reducible refine G.drew ?_) | (with_reducible refine G.alloc ?_ _))))))).mono ?_
        rintro e w3 ⟨rfl, hG3⟩
        have gw3 : G w w3 := gw2.trans (G.trans (by (repeat' (first | (with_reducible exact G.refl _) | (with_reducible refine G.drewN ?_ _) | (with_reducible refine G.drew ?_) | (with_reducible refine G.alloc ?_ _)))) hG3)
        have B3 := B2.later (G.trans (by (repeat' (first | (with_reducible exact G.refl _) | (with_reducible refine G.drewN ?_ _) | (with_reducible refine G.drew ?_) | (with_reducible refine G.alloc ?_ _)))) hG3)
        obtain ⟨a1, a2⟩ := box_later hG3
        obtain ⟨⟨s0, s1⟩, sf0, sf1⟩ := id B3
        go_wp2_with fail
        refine (same_any N O E _ HF.out.1 HF.out.2.1 HF.out.2.2).mono ?_
        rintro e w4 ⟨rfl, hG4⟩
        go_wp2_with fail
        go_ret
        exact ⟨by first | rfl | simp, gw3.trans hG4⟩
    · have hl20 : L.length ≤ 20 := by omega
      have HLn := Lib.hid hL
      obtain ⟨al, cl, rfl, FL⟩ := own_cells hown
      have hF := sum_fine L
      rw [hS.out] at hF
      have HF := Lib.hid (show (E = 0 ∨ (N = 0 ∧ O = 0 ∧ (E == 0) = false)) ∧ 0 ≤ O ∧ O ≤ 1073741823 by
        rcases hF with ⟨z, c⟩ | ⟨z, z1, z2⟩
        · exact ⟨.inl z, c.o1, c.o2⟩
        · exact ⟨.inr ⟨z1, z2, beq_false_of_ne z⟩, by show 0 ≤ O; simp only at z2; omega, by simp only at z2; omega⟩)
      clear hF hown
      go_wp2_with fail
      refine (Sum_any2 al L cl _ _ HLn.out hl20 FL hC.out).mono ?_
      rintro e w2 ⟨rfl, hG2⟩
      rw [hS.out]
      have gw2 : G w w2 := gr.trans hG2
      have B2 := B4.later hG2
      go_wp2_with fail
      refine (known_any _ (HT.out.later (G.trans gw2 (by (repeat' (first | (with_reducible exact G.refl _) | (with_reducible refine G.drewN ?_ _) | (with_reducible refine G.drew ?_) | (with_reducible refine G.alloc ?_ _))))))).mono ?_
      rintro e w3 ⟨rfl, hG3⟩
      have gw3 : G w w3 := gw2.trans (G.trans (by (repeat' (first | (with_reducible exact G.refl _) | (with_reducible refine G.drewN ?_ _) | (with_reducible refine G.drew ?_) | (with_reducible refine G.alloc ?_ _)))) hG3)
      have B3 := B2.later (G.trans (by (repeat' (first | (with_reducible exact G.refl _) | (with_reducible refine G.drewN ?_ _) | (with_reducible refine G.drew ?_) | (with_reducible refine G.alloc ?_ _)))) hG3)
      obtain ⟨a1, a2⟩ := box_later hG3
      obtain ⟨⟨s0, s1⟩, sf0, sf1⟩ := id B3
      go_wp2_with fail
      refine (same_any N O E _ HF.out.1 HF.out.2.1 HF.out.2.2).mono ?_
      rintro e w4 ⟨rfl, hG4⟩
      go_wp2_with fail
      go_ret
      exact ⟨by first | rfl | simp, gw3.trans hG4⟩
/-! ### the row and the card -/
open Go.ChangeShapes Go.WideShapes Go.ChangeAt Go.RowKit
set_option maxRecDepth 100000 in
theorem rationalSums_lifted (os : Os) (started : os.Started) (H : Type) (enc : TypeId × Value → H) :
    ReturnsInHanded {} Tryd.checked os 3 .any (fun w args => (Rows.rationalSumsSpec.pre enc Tryd.prog Tryd.f3 [] false w args ∧ laidMetH Tryd.prog laidL w) ∧ sizedMet enc Tryd.prog Tryd.f3 (OpenSpec.ofChange Rows.rationalSumsSpec) false w args)
      (Rows.rationalSumsSpec.post enc Tryd.prog Tryd.f3 false true false false) := by
  refine returnsInHanded_of_change_and (C := Tryd.checked) (X := fun w _ => laidMetH Tryd.prog laidL w) (fun _ _ _ hh h => h.of_heap hh) own started (by kernel_rfl) Tryd.func3
    (ChangeSpec.witness_shaped (enc := enc) (C := Tryd.checked) (os := os) (X := fun w _ => laidMetH Tryd.prog laidL w) false (World.doorLaid Tryd.prog 29 os) #[.slice none 0 0] 8 rfl (World.shaped_of_RefB (by kernel_rfl) (by kernel_rfl)) (by kernel_rfl) (by kernel_rfl) (by kernel_rfl) (door_met os _)) ?_
  intro W base args ds gs before hval0 hW _ _ hL _
  have hval : ∀ (j : Nat) t v, Tryd.f3.params[j]? = some t → args[j]? = some v → Value.okWide Tryd.prog W .any base t v := hval0
  have hW' := hW
  obtain ⟨p, q, hA0, hV, rfl, hfz, hnd⟩ := hW
  have hA : DataW.TrodAll enc Tryd.prog W 0 (fun _ => true) true Tryd.f3.params.toList args.toList ds p := hA0
  rw [Tryd.params3] at hA hval
  obtain ⟨v0, vs0, d0, ds0, p0, q0, hargs, rfl, rfl, h0, r0⟩ := trodAll_cons hA
  obtain ⟨rfl, rfl, rfl⟩ := trodAll_nil r0
  obtain rfl : args = #[v0] := by cases args; simp_all
  obtain ⟨rfl, rfl⟩ := trodVars_none hV
  have keep0 := h0
  obtain ⟨a0, cap0, l0, rfl, lc0, mc0, la0, wf0, lz0⟩ := open_prsArg (hval 0 22 v0 rfl rfl) h0
  clear hA0 hval0
  simp only [List.append_nil] at hW'
  have hlt0 : ∀ x ∈ p0, x.block < W.heap.size := fun x hx => by have := hW'.lt x (by simp [hx]); simpa using this
  refine (sums_walk a0 l0 cap0 W lc0 mc0 la0 lz0 wf0  (tab_of_laid hL)).mono fun e W' ⟨he, hg⟩ => ?_
  subst he
  exact ⟨_, rfl, _, _, _, [], (p0 ++ []), [], hW', (trodAll_cons_mk (shut_bool Tryd.underlying4 _) trodAll_mk0), (trodAll_cons_mk (Below.trod (by kernel_rfl) (by kernel_rfl) (of_decide_eq_true (by kernel_rfl)) keep0 hg hlt0) trodAll_mk0), rfl, Below.frame hg _, fun h => by cases h⟩

theorem rationalSums_holds : Rows.RationalSumsSaid :=
  OpenClaim.holds_of_wide 3 Tryd.f3 rfl rfl rfl rfl rfl rfl rfl ⟨rfl, rfl, rfl, rfl, rfl⟩ rfl rfl rfl rfl rfl (by kernel_rfl) Tryd.func3 (by kernel_rfl)
    (of_decide_eq_true (by kernel_rfl)) (by unfold Func.isWrapper; first | (rw [if_pos (by decide +kernel)]; kernel_rfl) | (rw [if_neg (by decide +kernel)]; exact ⟨rfl, rfl⟩))
    (fun os started H enc _ => rationalSums_lifted os started H enc)

theorem rationalSums_card : Rows.RationalSumsCardSaid :=
  Claim7.holds_tied_plain_at .later [] [.data, .data, .data] true (true, "a1d52c748dbfea43b6350dcea814482f8b170b4f84ef085f43ae616fee1a060e") false
    rationalSums_holds (fun _ h => by cases h) (by kernel_rfl) (fun _ h => by cases h) rationalSums_row_tie rfl ⟨rfl, rfl⟩ (by kernel_rfl) rfl
    (fun f fn hf hfn => by
      obtain rfl : f = 3 := Option.some.inj ((show Tryd.prog.funcNamed "hemiola/hemiolalaw01.RationalSums" = some 3 by kernel_rfl).symm.trans hf) |>.symm
      obtain rfl : fn = Tryd.f3 := (Option.some.inj (Tryd.func3.symm.trans hfn)).symm
      exact ⟨by kernel_rfl, fun j t ht => by
        rw [Tryd.params3] at ht
        have hm : t ∈ [22] := by simpa using Array.mem_of_getElem? ht
        have hall : ([22].all fun u => !Tryd.prog.wantsStandIn u) = true := by kernel_rfl
        exact (show Tryd.prog.wantsStandIn t = false by simpa using List.all_eq_true.1 hall t hm)⟩)
    (by kernel_rfl)
#print axioms rationalSums_card
end Go.Proofs.YthengbhokamhbaaDoor
