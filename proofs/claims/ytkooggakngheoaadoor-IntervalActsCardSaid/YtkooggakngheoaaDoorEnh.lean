import Derived.Test.YtkooggakngheoaaDoorBack
/-! Enharmonics: all pitches with a number. -/
namespace Go.Proofs.YtkooggakngheoaaDoor
open Go.RowKit Go.Shelf
attribute [local go_sem] Oper.semAt_some World.cell?_alloc_some

/-- the pitch with a number and an alteration, if there is one; all of them -/
abbrev P3 := Int × Int × Int
def sp3 (n : Int) (x : Alt) : P3 := (spX n x.1 (so ((n - x.1) % 12)), spX n x.1 x.1, spX n x.1 ((n - x.1 + 12) / 12 - 2))
def enh1 (n : Int) (x : Alt) : List P3 := if spE n x.1 = 0 then [sp3 n x] else []
def enh (n : Int) (l : List Alt) : List P3 := l.flatMap (enh1 n)
def cells3 (p : P3) : List Value := [.int .i64 p.1, .int .i64 p.2.1, .int .i64 p.2.2]
def flat (l : List P3) : List Value := l.flatMap cells3
theorem flat_append (a b : List P3) : flat (a ++ b) = flat a ++ flat b := by simp [flat]
theorem flat_one (p : P3) : flat [p] = cells3 p := by simp [flat]
theorem enh_hit {n : Int} {x : Alt} (h : spE n x.1 = 0) (pre : List Alt) : enh n (pre ++ [x]) = enh n pre ++ [sp3 n x] := by simp [enh, enh1, h]
theorem enh_miss {n : Int} {x : Alt} (h : spE n x.1 ≠ 0) (pre : List Alt) : enh n (pre ++ [x]) = enh n pre := by simp [enh, enh1, h]
theorem enh_length (n : Int) : ∀ l : List Alt, (enh n l).length ≤ l.length
  | [] => by simp [enh]
  | x :: l => by
    have := enh_length n l
    unfold enh at this ⊢
    rw [List.flatMap_cons, List.length_append, List.length_cons]
    have h : (enh1 n x).length ≤ 1 := by unfold enh1; split <;> simp
    omega

theorem pInfo : (Tryd.prog.info? 41).map (fun i => (i.zero, i.size, i.bytes)) = some (some (.agg #[.int .i64 0, .int .i64 0, .int .i64 0]), 3, 24) := by kernel_rfl

set_option maxHeartbeats 1000000 in
theorem backward_in (F : Fence) (n : Nat) (hF : F.fn 62) (hro : F.round = none) (a : Option Addr) (len cap : Nat) (w : World) :
    CallsIn F n Tryd.prog 62 #[.slice a len cap] w fun e w' => e = .returned (.func (.func 75) #[] #[.pointer (some ⟨w.heap.size, 0, none⟩)]) ∧ w' = w.alloc (.cells #[.slice a len cap] 86) := by
  refine callsIn_of_wp Tryd.func62 rfl hF ?_ hro
  simp only [Tryd.ntmps62, List.size_toArray, List.length_cons, List.length_nil, Nat.reduceAdd, Nat.reduceSub, Array.replicate_succ, Array.replicate_zero, List.push_toArray, List.append_toArray, List.nil_append, List.cons_append]
  gi_wp2
  go_ret
  exact ⟨rfl, rfl⟩

theorem back_stops (F : Fence) (n : Nat) (hF : F.fn 75) (hro : F.round = none) (hn : 1 ≤ n) (Bs B b n₀ : Nat) (hb : b < n₀) (hbB : b ≠ B) (hs : Bs < n₀) (hsB : Bs ≠ B) (w : World) (hn₀ : n₀ ≤ w.heap.size) (hBs : w.cell? ⟨Bs, 0, none⟩ = some (.slice (some ⟨b, 0, none⟩) 5 5))
    (hc0 : w.cell? ⟨b, 0, none⟩ = some (.int .i64 (-2))) (hc1 : w.cell? ⟨b, 1, none⟩ = some (.int .i64 (-1))) (hc2 : w.cell? ⟨b, 2, none⟩ = some (.int .i64 0)) (hc3 : w.cell? ⟨b, 3, none⟩ = some (.int .i64 1)) (hc4 : w.cell? ⟨b, 4, none⟩ = some (.int .i64 2)) :
    SeqStopsK F n Tryd.prog 75 #[.pointer (some ⟨Bs, 0, none⟩)] altsEnc (Kx B n₀) (fun ys => ys = alts 5) (fun pre => ∃ k, k ≤ 5 ∧ pre = alts k) 5 w := fun l J Jx W hW _ _ hY h0 =>
  back1_in F n hF hro hn l Bs B b n₀ hb hbB hs hsB J Jx hY W ((hW.cell (p := ⟨Bs, 0, none⟩) (Nat.lt_of_lt_of_le hs hn₀)).trans hBs)
    ((hW.cell (p := ⟨b, 0, none⟩) (Nat.lt_of_lt_of_le hb hn₀)).trans hc0) ((hW.cell (p := ⟨b, 1, none⟩) (Nat.lt_of_lt_of_le hb hn₀)).trans hc1) ((hW.cell (p := ⟨b, 2, none⟩) (Nat.lt_of_lt_of_le hb hn₀)).trans hc2) ((hW.cell (p := ⟨b, 3, none⟩) (Nat.lt_of_lt_of_le hb hn₀)).trans hc3) ((hW.cell (p := ⟨b, 4, none⟩) (Nat.lt_of_lt_of_le hb hn₀)).trans hc4) h0

set_option maxHeartbeats 400000 in
theorem Enharmonics_out (n : Int) (w : World) (h : ¬ (0 ≤ n ∧ n ≤ 127)) :
    Calls Tryd.prog 41 #[.int .i64 n] w fun e w' => e = .returned (.tuple #[.slice none 0 0, .int .i64 2]) ∧ G w w' := by
  have HD := Lib.hid (decide_eq_false h)
  clear h
  go_enter Tryd.func41, Tryd.ntmps41
  go_wp2_with fail
  refine (isNumber_any _ _).mono ?_
  rintro e w2 ⟨rfl, rfl⟩
  rw [HD.out]
  go_wp2_with fail
  go_returns
  exact ⟨rfl, by (repeat' (first | (with_reducible exact G.refl _) | (with_reducible assumption) | (with_reducible refine G.drewN ?_ _) | (with_reducible refine G.drew ?_) | (with_reducible refine G.alloc ?_ _) | (with_reducible refine G.setCell ?_ (by first | (with_reducible exact Nat.le_refl _) | (simp; done) | (simp; omega) | omega) _) | (with_reducible refine G.trans ?_ (by assumption))))⟩

theorem boxed_later {W W' : World} {B : Nat} {t : TypeId} {v : Value} (h : Boxed W B t v) (g : G W W') : Boxed W' B t v := h.kept (grown_of_G g none) (by simp)
theorem own_later {W W' : World} {base : Nat} {e : TypeId} {size k : Nat} {v : Value} {xs : List Value} (h : W.ownsRow base e size v k xs) (g : G W W') : W'.ownsRow base e size v k xs := by
  refine h.kept (grown_of_G g none) ?_
  rcases h.2 with ⟨rfl, _⟩ | ⟨b, cap, cur, rfl, _, _, _⟩
  · exact .inl rfl
  · exact .inr (by simp [Value.ownBlock])
theorem own_base {W : World} {base base' : Nat} {e : TypeId} {size k : Nat} {v : Value} {xs : List Value} (h : W.ownsRow base e size v k xs) (hb : base' ≤ base) : W.ownsRow base' e size v k xs := by
  refine ⟨h.1, ?_⟩
  rcases h.2 with h | ⟨g, cap, cur, h1, h2, h3⟩
  · exact .inl h
  · exact .inr ⟨g, cap, cur, h1, Nat.le_trans hb h2, h3⟩
theorem body_end {W W3 w1 : World} {n₀ B : Nat} {t e : TypeId} {size : Nat} {v v' : Value} {k m : Nat} {xs ys : List Value} {tmp : Obj} (g : G W W3)
    (hv : Boxed W B t v) (hte : t ≠ e) (hrow : W.ownsRow n₀ e size v k xs) (hn₀ : n₀ ≤ W.heap.size)
    (hown' : w1.ownsRow n₀ e size v' m ys) (hgrow : (W3.alloc tmp).grownBy w1 v.ownBlock) :
    Boxed w1 B t v ∧ Boxed (w1.setCell ⟨B, 0, none⟩ v') B t v' ∧ (w1.setCell ⟨B, 0, none⟩ v').ownsRow n₀ e size v' m ys ∧ KeepsOthers W (w1.setCell ⟨B, 0, none⟩ v') ∧ Kx B n₀ W (w1.setCell ⟨B, 0, none⟩ v') := by
  obtain ⟨a, b, c, d, f⟩ := appended3 (boxed_later hv g) hte (own_later hrow g) (Nat.le_trans hn₀ g.size) hown' hgrow
  exact ⟨a, b, c, (keeps_of_G g).trans d, (Kx.of_below (Below.mono g hn₀)).trans f⟩
theorem cell_three_new (W : World) (B : Nat) (a b c : Value) (t : TypeId) (hs : W.heap.size = B) : ∀ (j : Nat) (u : Value), [a, b, c][j]? = some u → (W.alloc (.cells #[a, b, c] t)).cell? ((⟨B, 0, none⟩ : Addr).add j) = some u := by
  intro j u hj
  subst hs
  match j, hj with
  | 0, h => simp at h; subst h; simp [Addr.add]
  | 1, h => simp at h; subst h; simp [Addr.add]
  | 2, h => simp at h; subst h; simp [Addr.add]
  | j + 3, h => simp at h

set_option maxRecDepth 100000 in
set_option maxHeartbeats 4000000 in
theorem Enharmonics_any (n : Int) (w : World) (hn : 0 ≤ n) (hn2 : n ≤ 127) (hT : Hts w) :
    Calls Tryd.prog 41 #[.int .i64 n] w fun e W' => ∃ v, e = .returned (.tuple #[v, .int .i64 0]) ∧ W'.ownsRow w.heap.size 41 3 v (enh n (alts 5)).length (flat (enh n (alts 5))) ∧ G w W' := by
  obtain ⟨i0, hi, hz0, hz1, hz2⟩ := info_parts pInfo
  have HD := Lib.hid (decide_eq_true (And.intro hn hn2))
  have HT := Lib.hid hT
  clear hT
  refine (callsIn_wide (n := 6)).1 ?_
  refine callsIn_of_wp_marks Tryd.func41 rfl trivial ?_ rfl
  simp only [Tryd.ntmps41, List.size_toArray, List.length_cons, List.length_nil, Nat.reduceAdd, Nat.reduceSub, Array.replicate_succ, Array.replicate_zero, List.push_toArray, List.append_toArray, List.nil_append, List.cons_append]
  gi_wp2_with (first | (refine ⟨trivial, ?_⟩; gi_at_call 61; refine (callsIn_wide.2 (isNumber_any _ _)).mono ?_; rintro e w' ⟨rfl, rfl⟩; rw [HD.out]) | (refine ⟨trivial, ?_⟩; gi_at_call 62; refine (backward_in Fence.wide _ trivial rfl _ _ _ _).mono ?_; rintro e w' ⟨rfl, rfl⟩))
  obtain ⟨WL, hWL⟩ : ∃ WL : World, WL = (((w.alloc (.cells #[.int .i64 n] 3)).alloc (.cells #[.slice none 0 0] 51)).alloc (.cells #[.int .i64 (-2), .int .i64 (-1), .int .i64 0, .int .i64 1, .int .i64 2] 3)).alloc (.cells #[.slice (some ⟨w.heap.size + 1 + 1, 0, none⟩) 5 5] 86) := ⟨_, rfl⟩
  have bO : Boxed WL (w.heap.size + 1) 51 (.slice none 0 0) := by
    have h := ((Boxed.new (w.alloc (.cells #[.int .i64 n] 3)) 51 (.slice none 0 0)).alloc (.cells #[.int .i64 (-2), .int .i64 (-1), .int .i64 0, .int .i64 1, .int .i64 2] 3)).alloc (.cells #[.slice (some ⟨w.heap.size + 1 + 1, 0, none⟩) 5 5] 86)
    rw [World.size_alloc] at h
    rw [hWL]; exact h
  have hsz : WL.heap.size = w.heap.size + 4 := by rw [hWL]; simp
  have gL : G w WL := by rw [hWL]; (repeat' (first | (with_reducible exact G.refl _) | (with_reducible assumption) | (with_reducible refine G.drewN ?_ _) | (with_reducible refine G.drew ?_) | (with_reducible refine G.alloc ?_ _) | (with_reducible refine G.setCell ?_ (by first | (with_reducible exact Nat.le_refl _) | (simp; done) | (simp; omega) | omega) _) | (with_reducible refine G.trans ?_ (by assumption))))
  have cn : WL.cell? ⟨w.heap.size, 0, none⟩ = some (.int .i64 n) := by rw [hWL]; go_cell
  have cb : WL.cell? ⟨w.heap.size + 1 + 1 + 1, 0, none⟩ = some (.slice (some ⟨w.heap.size + 1 + 1, 0, none⟩) 5 5) := by rw [hWL]; go_cell
  have c0 : WL.cell? ⟨w.heap.size + 1 + 1, 0, none⟩ = some (.int .i64 (-2)) := by rw [hWL]; go_cell
  have c1 : WL.cell? ⟨w.heap.size + 1 + 1, 1, none⟩ = some (.int .i64 (-1)) := by rw [hWL]; go_cell
  have c2 : WL.cell? ⟨w.heap.size + 1 + 1, 2, none⟩ = some (.int .i64 0) := by rw [hWL]; go_cell
  have c3 : WL.cell? ⟨w.heap.size + 1 + 1, 3, none⟩ = some (.int .i64 1) := by rw [hWL]; go_cell
  have c4 : WL.cell? ⟨w.heap.size + 1 + 1, 4, none⟩ = some (.int .i64 2) := by rw [hWL]; go_cell
  rw [← hWL]
  clear hWL
  refine wpIn_rangeFunc_ownG rfl (by omega) (gf := 75) (lb := #[.pointer (some ⟨w.heap.size + 1 + 1 + 1, 0, none⟩)]) rfl trivial (enters_of Tryd.func75 (by kernel_rfl) rfl)
    (back_stops Fence.wide _ trivial rfl (by omega) (w.heap.size + 1 + 1 + 1) (w.heap.size + 1) (w.heap.size + 1 + 1) WL.heap.size (by omega) (by omega) (by omega) (by omega) WL (Nat.le_refl _) cb c0 c1 c2 c3 c4) (fun h k => h.trans k) kx_b (Below.refl _ _) (fun _ => rfl)
    (fun pre W => (∃ v, Boxed W (w.heap.size + 1) 51 v ∧ W.ownsRow WL.heap.size 41 3 v (enh n pre).length (flat (enh n pre)) ∧ True) ∧ Kx (w.heap.size + 1) WL.heap.size WL W)
    (fun _ _ _ => False)
    (OwnFrom.and (Own.from (holdsRow_own WL.heap.size (w.heap.size + 1) 51 41 3 (fun pre => (enh n pre).length) (fun pre => flat (enh n pre)) (fun _ _ => True)) _) (ownFrom_kx (Nat.le_refl _) (Nat.le_refl _)))
    (fun _ _ _ _ _ hs _ _ => hs)
    ⟨⟨_, bO, World.ownsRow_nil _ _ _ _, trivial⟩, Kx.refl _ _ _⟩
    (fun x => { tmps := #[.int .i64 n, .pointer (some ⟨w.heap.size, 0, none⟩), .slice none 0 0, .int .i64 0, .pointer (some ⟨w.heap.size + 1, 0, none⟩), undef, .int .i64 x.1, undef, undef, .int .i64 n, .bool true, .bool false, .slice (some ⟨w.heap.size + 1 + 1, 0, none⟩) 5 5, .func (.func 75) #[] #[.pointer (some ⟨w.heap.size + 1 + 1 + 1, 0, none⟩)], .int .i64 (x.1 + 2), .int .i64 x.1, undef, undef, undef, undef, undef, undef, undef, undef, undef, undef, undef, undef, undef], defers := [] }) ?assign ?body ?done ?stop
  case assign =>
    intro l x W K hK
    gi_wp2
    exact hK
  case body =>
    rintro l pre x W ⟨⟨v, hv, hrow, _⟩, hKx⟩ hlt
    have hx := x.2
    have kn := (hKx.cell (p := ⟨w.heap.size, 0, none⟩) (by show w.heap.size < _; omega) (by show w.heap.size ≠ _; omega)).trans cn
    have hTW : Hts W := by
      obtain ⟨y0, y1, y2, y3, y4, y5, y6⟩ := HT.out.later gL
      have lt : ∀ {p : Addr} {v : Value}, w.cell? p = some v → WL.cell? p = some v → W.cell? p = some v := fun h1 h2 => (hKx.cell (by have := cell_lt h1; omega) (by have := cell_lt h1; omega)).trans h2
      obtain ⟨z0, z1, z2, z3, z4, z5, z6⟩ := HT.out
      exact ⟨lt z0 y0, lt z1 y1, lt z2 y2, lt z3 y3, lt z4 y4, lt z5 y5, lt z6 y6⟩
    have hle := hKx.size
    have hT2 := Lib.hid hTW
    clear hTW
    have hpl : (enh n pre).length ≤ pre.length := enh_length n pre
    by_cases hE : spE n x.1 = 0
    · have hE' : (spE n x.1 == 0) = true := by rw [hE]; rfl
      have HE := Lib.hid hE
      clear hE
      gi_wp2_with (first
        | (refine ⟨trivial, ?_⟩; gi_at_call 63; refine (CallsIn.inRound l (callsIn_wide.2 (spelled_any n x.1 _ hn hn2 hx.1 hx.2 hT2.out))).mono ?_; rintro e W2 ⟨rfl, hG⟩; have cB := hG.at hv.cell; have ltB := cell_lt cB; have neB : (w.heap.size + 1 = W2.heap.size) = False := by simp only [eq_iff_iff, iff_false]; exact Nat.ne_of_lt ltB)
        | (gi_at_builtin
           refine wpListIn_append_own _ rfl _ _ 51 rfl WL.heap.size 41 i0 (.agg #[.int .i64 0, .int .i64 0, .int .i64 0]) 3 24 Tryd.underlying51 hi hz0 hz1 hz2 rfl (by decide) v (enh n pre).length (flat (enh n pre)) rfl ?_ ⟨W2.heap.size + 1, 0, none⟩ 1 1 (cells3 (sp3 n x)) ?_ ?_ ?_ ?_ ?_ ?_ ?_ ?_
           · exact own_later hrow (by (repeat' (first | (with_reducible exact G.refl _) | (with_reducible assumption) | (with_reducible refine G.drewN ?_ _) | (with_reducible refine G.drew ?_) | (with_reducible refine G.alloc ?_ _) | (with_reducible refine G.setCell ?_ (by first | (with_reducible exact Nat.le_refl _) | (simp; done) | (simp; omega) | omega) _) | (with_reducible refine G.trans ?_ (by assumption)))))
           · rfl
           · rfl
           · exact cell_three_new _ _ _ _ _ _ (by simp)
           · simp [cells3, Value.oneCell']
           · unfold maxLen; omega
           · omega
           · have := hG.size; simp; omega
           · intro v' w1 hown' hgrow _
             obtain ⟨g', cap', rfl⟩ := ownsRow_succ hown'
             obtain ⟨hv1, hv2, hr2, hk2, hb2⟩ := body_end (W := W) (by (repeat' (first | (with_reducible exact G.refl _) | (with_reducible assumption) | (with_reducible refine G.drewN ?_ _) | (with_reducible refine G.drew ?_) | (with_reducible refine G.alloc ?_ _) | (with_reducible refine G.setCell ?_ (by first | (with_reducible exact Nat.le_refl _) | (simp; done) | (simp; omega) | omega) _) | (with_reducible refine G.trans ?_ (by assumption))))) hv (by decide) hrow hle hown' hgrow
             have hc1 := hv1.cell
             have hf1 := hv1.frozen
             gi_wp2
             exact ⟨hk2.from _, hb2, ⟨_, hv2, by rw [enh_hit HE.out, flat_append, flat_one, List.length_append]; exact hr2, trivial⟩, hKx.trans hb2⟩))
    · have hE' : (spE n x.1 == 0) = false := beq_false_of_ne hE
      have HE := Lib.hid hE
      clear hE
      gi_wp2_with (refine ⟨trivial, ?_⟩; gi_at_call 63; refine (CallsIn.inRound l (callsIn_wide.2 (spelled_any n x.1 _ hn hn2 hx.1 hx.2 hT2.out))).mono ?_; rintro e W2 ⟨rfl, hG⟩)
      have g3 : G W (W2.alloc (.cells #[.int .i64 (spX n x.1 (so ((n - x.1) % 12))), .int .i64 (spX n x.1 x.1), .int .i64 (spX n x.1 ((n - x.1 + 12) / 12 - 2))] 41)) := by (repeat' (first | (with_reducible exact G.refl _) | (with_reducible assumption) | (with_reducible refine G.drewN ?_ _) | (with_reducible refine G.drew ?_) | (with_reducible refine G.alloc ?_ _) | (with_reducible refine G.setCell ?_ (by first | (with_reducible exact Nat.le_refl _) | (simp; done) | (simp; omega) | omega) _) | (with_reducible refine G.trans ?_ (by assumption))))
      have kx := Kx.of_below (b := w.heap.size + 1) (Below.mono g3 hle)
      exact ⟨(keeps_of_G g3).from _, kx, ⟨v, boxed_later hv g3, by rw [enh_miss HE.out]; exact own_later hrow g3, trivial⟩, hKx.trans kx⟩
  case done =>
    rintro D ys W hD rfl ⟨⟨v, hv, hrow, _⟩, hKx⟩ hK
    have hc := hv.cell
    gi_wp2
    refine ⟨by simp, .inl ⟨_, _, rfl, run_takeDeferred hK, ?_⟩⟩
    have kD := kx_b (b := w.heap.size + 1) W D _ (.deferred none) hD hK rfl rfl
    exact ⟨.tuple #[v, .int .i64 0], by simp [results, Tryd.results41, go_sem], v, rfl, ownsRow_putObj (own_base hrow gL.size) _ hK rfl,
      Below.trans gL ((hKx.trans kD).below (by omega) gL.size)⟩
  case stop =>
    rintro D c pre W _ _ h _
    exact h.elim
end Go.Proofs.YtkooggakngheoaaDoor
