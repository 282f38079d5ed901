import Derived.Test.YtabaiklagobimaaT16
import Derived.Test.YtabaiklagobimaaR1
import Derived.Deep.AppendLies
/-! Tuplets: the reference's Sort. -/
namespace Go.Proofs.Ytabaiklagobimaa
open Go.RowKit
attribute [local go_sem] World.cell?_alloc_some

theorem step_append_any {P : Program} {w : World} {ops : Array Oper} {o : Oper} {a : Act} {K : Act → World → Prop} {Q : Exit → Act → World → Prop} {E : Prop} (hgd : o.guard = none) (s x : Operand) (t : TypeId)
    (ho : o.op = .call { callee := .builtin .append, args := #[s, x], argTypes := #[t, t] })
    (base : Nat) (e : TypeId) (i : TypeInfo) (z : Value) (size bytes : Nat) (ht : P.underlying t = some (.slice e)) (hi : P.info? e = some i) (hz : i.zero = some z)
    (hsize : i.size = size) (hby : i.bytes = bytes) (hzs : z.cells.size = size) (hsz : 0 < size)
    (B n c0 : Nat) (xs : List Value) (hs : a.eval s = .slice (some ⟨B, 0, none⟩) n c0) (hown : w.ownsRow base e size (.slice (some ⟨B, 0, none⟩) n c0) n xs)
    (A : Option Addr) (m c : Nat) (news : List Value) (hx : a.eval x = .slice A m c) (hA : A = none → m = 0 ∧ c = 0) (hl : news.length = m * size) (hnews : ∀ ad, A = some ad → ∀ j u, news[j]? = some u → w.cell? (ad.add j) = some u) (h1 : ∀ u ∈ news, u.oneCell' = true)
    (h63 : n + m ≤ maxLen) (hbytes : (n + m) * bytes ≤ 140737488355328) (hbase : base ≤ w.heap.size)
    (h : ∀ g cap w', w'.ownsRow base e size (.slice (some ⟨g, 0, none⟩) (n + m) cap) (n + m) (xs ++ news) → w.grownBy w' (some B) → K (a.put o.dst (.slice (some ⟨g, 0, none⟩) (n + m) cap)) w') :
    if Region.wanted o (yielded ops a.tmps) = true then Oper.wp P o a w K Q else E := by
  have hw : Region.wanted o (yielded ops a.tmps) = true := by simp [Region.wanted, hgd]
  rw [if_pos hw]
  cases A with
  | some ad =>
    obtain ⟨v', w', hr, h2, h3, h4, _⟩ := run_append_own_at (P := P) w base t o.type e i z size bytes ht hi hz hsize hby hzs hsz _ n xs hown ad m c news hl (hnews ad rfl) h1 h63 hbytes hbase
    have hv : ∃ g cap, v' = .slice (some ⟨g, 0, none⟩) (n + m) cap := by
      rcases h2.2 with ⟨h5, _⟩ | ⟨g, cap, cur, h5, _⟩
      · exact absurd (h4.1 h5).1 (by simp)
      · exact ⟨g, cap, h5⟩
    obtain ⟨g, cap, rfl⟩ := hv
    unfold Oper.wp execOp
    simp only [ho, resolve, invoke, builtin, Sem.run_bind, Sem.run_pure, Result.andThen_ok, List.map_toArray, List.map_cons, List.map_nil, hs, hx, hr]
    exact h g cap w' h2 h3
  | none =>
    obtain ⟨rfl, rfl⟩ := hA rfl
    obtain rfl : news = [] := List.length_eq_zero_iff.1 (by simpa using hl)
    have hrun := run_append_owned_none (P := P) (w := w) base t o.type e i size ht hi _ n xs hown
    unfold Oper.wp
    simp [execOp, ho, resolve, invoke, builtin, hs, hx, hrun, Result.andThen]
    exact h B c0 w (by simpa using hown) (World.grownBy.rf _ _)
theorem keep_news {W w8 : World} {row : Option Nat} (hg : W.grownBy w8 row) {B : Nat} {L : List Value} (hB : B < W.heap.size) (hne : some B ≠ row) (h : ∀ j u, L[j]? = some u → W.cell? ((⟨B, 0, none⟩ : Addr).add j) = some u) :
    ∀ j u, L[j]? = some u → w8.cell? ((⟨B, 0, none⟩ : Addr).add j) = some u := fun j u hj => by
  have hb : ((⟨B, 0, none⟩ : Addr).add j).block = B := by unfold Addr.add; split <;> rfl
  rw [← h j u hj]
  exact World.cell?_of_block (by rw [hb]; exact hg.block B hB hne)
theorem later_news {W w8 : World} (hg : G W w8) {A : Addr} {L : List Value} (h : ∀ j u, L[j]? = some u → W.cell? (A.add j) = some u) : ∀ j u, L[j]? = some u → w8.cell? (A.add j) = some u := fun j u hj => hg.at (h j u hj)
theorem own_ge {w : World} {base g n cap k sz : Nat} {e : TypeId} {xs : List Value} (h : w.ownsRow base e sz (.slice (some ⟨g, 0, none⟩) n cap) k xs) : base ≤ g := by
  rcases h.2 with ⟨h, _⟩ | ⟨g', cap', cur, h, hb, _⟩
  · cases h
  · simp only [Value.slice.injEq, Option.some.injEq, Addr.mk.injEq, and_true] at h
    rw [h.1]; exact hb
theorem row_of {w : World} {base k : Nat} {e : TypeId} {v : Value} {xs : List Value} {M : List Tu} (h : w.ownsRow base e 4 v k xs) (hk : k = M.length) (hx : xs = M.flatMap tuE) : Row tuE e 4 base w v M := by
  subst hk hx
  exact h

/-- a part of a row, as a slice of its own -/
theorem tus_drop {w : World} {b o k : Nat} {l : List Tu} (h : ∀ (i : Nat) (t : Tu), l[i]? = some t → Tu4 w b (o + i * 4) t) : ∀ (i : Nat) (t : Tu), (l.drop k)[i]? = some t → Tu4 w b (o + k * 4 + i * 4) t := fun i t ht => by
  rw [List.getElem?_drop] at ht
  have := h _ t ht
  rwa [Nat.add_mul, ← Nat.add_assoc] at this

set_option maxRecDepth 100000 in
set_option maxHeartbeats 25600000 in
theorem rSort_any (a : Option Addr) (l : List Tu) (n c : Nat) (w : World) (hn : l.length = n) (hl : n ≤ 20) (h1 : TusAt w a l) :
    Calls Try.prog 19 #[.slice a n c] w fun e w' => ∃ v, e = .returned v ∧ Row tuE 39 4 w.heap.size w' v (sortT l) ∧ G w w' := by
  obtain ⟨i0, hi0, hz0, hz1, hz2⟩ := info_parts' rInfo
  have H1 := Lib.hid h1
  have HN := Lib.hid (And.intro hn hl)
  clear h1 hn hl
  go_enter Try.func19, Try.ntmps19
  go_wp2_with fail
  go_loopg [3, 4] n (fun k y x wr => ∃ (i : Nat) (v : Value), v = y ∧ x = .int .i64 i ∧ k = n - i ∧ i ≤ n ∧ Hid (Row tuE 39 4 w.heap.size wr v (rs (l.take i)).reverse) ∧ G w wr)
  case atStart => exact ⟨0, _, rfl, rfl, by omega, by omega, Lib.hid (by simpa [rs] using Row.nil (enc := tuE) w), by (repeat' (first | (with_reducible exact G.refl _) | (with_reducible assumption) | (with_reducible refine G.drewN ?_ _) | (with_reducible refine G.drew ?_) | (with_reducible refine G.alloc ?_ _) | (with_reducible refine G.setCell ?_ (by first | (with_reducible exact Nat.le_refl _) | (simp; done) | (simp; omega) | omega) _) | (with_reducible refine G.trans ?_ (by assumption))))⟩
  case round =>
    obtain ⟨i, v, rfl, rfl, hk, hi', hR, gr⟩ := hrel
    have HK := Lib.hid hk
    clear hk
    by_cases hin : i < n
    · obtain ⟨⟨f, cc, aa, nn⟩, hp⟩ : ∃ z, l[i]? = some z := ⟨l[i]'(by have := HN.out; omega), List.getElem?_eq_getElem (by have := HN.out; omega)⟩
      rcases H1.out with hz | ⟨b0, of, rfl, fc⟩
      · rw [hz] at hp; simp at hp
      have FC := Lib.hid (fc i _ hp)
      have HP := Lib.hid hp
      have HRL := Lib.hid (show (rs (l.take i)).length = i by rw [rs_len, List.length_take]; have := HN.out; omega)
      have b1 : (0 : Int) ≤ (i : Int) := by omega
      have b2 : (i : Int) < (n : Int) := by omega
      have q1 := IntWalk.i64_in ((i : Int) + 1) (by have := HN.out; omega)
      have HI := Lib.hid hin
      have HGS := Lib.hid gr.size
      clear fc hp hin
      rcases hR.out.cells tuE_len with ⟨rfl, hM⟩ | ⟨gO, cO, rfl, hgO, hcO, hmO, hcell⟩
      · have hi0' : i = 0 := by have := congrArg List.length hM; rw [List.length_reverse, HRL.out] at this; exact this
        have HEND := Lib.hid (show (rs (l.take (i + 1))).reverse = [⟨f, cc, aa, nn⟩] by
          rw [rs_next HP.out, show rs (l.take i) = [] from List.reverse_eq_nil_iff.1 hM]; rfl)
        obtain ⟨x0, x1, x2, x3⟩ := FC.out.later gr
        dsimp only at x0 x1 x2 x3
        clear hM hi0'
        go_wp2_with fail
        go_loopg [5] 0 (fun k x wr2 => k = 0 ∧ x = .int .i64 0 ∧ G wr wr2)
        case atStart => exact ⟨rfl, rfl, by (repeat' (first | (with_reducible exact G.refl _) | (with_reducible assumption) | (with_reducible refine G.drewN ?_ _) | (with_reducible refine G.drew ?_) | (with_reducible refine G.alloc ?_ _) | (with_reducible refine G.setCell ?_ (by first | (with_reducible exact Nat.le_refl _) | (simp; done) | (simp; omega) | omega) _) | (with_reducible refine G.trans ?_ (by assumption))))⟩
        case round =>
          obtain ⟨rfl, rfl, gr2⟩ := hrel
          have HG2 := Lib.hid (show w.heap.size ≤ _ from Nat.le_trans gr.size gr2.size)
          have X0 := gr2.at x0
          have X1 := gr2.at x1
          have X2 := gr2.at x2
          have X3 := gr2.at x3
          have gwr := gr.trans gr2
          clear x0 x1 x2 x3
          go_wp2_with fail
          go_big_region
          all_goals
            go_wp2_with fail
            have FX := Lib.hid (show Tu4 wr b0 (of + i * 4) ⟨f, cc, aa, nn⟩ from ⟨X0, X1, X2, X3⟩)
            have HML := Lib.hid (show n ≤ 20 from HN.out.2)
            have gC : G wr wr.drew := by (repeat' (first | (with_reducible exact G.refl _) | (with_reducible refine G.drewN ?_ _) | (with_reducible refine G.drew ?_) | (with_reducible refine G.alloc ?_ _)))
            refine wp_region_held_drew (S := fun w' => w'.cell? ⟨b0, of + i * 4, none⟩ = some (.int .i64 f) ∧ w'.cell? ⟨b0, of + i * 4 + 1, none⟩ = some (.int .i64 cc) ∧ w'.cell? ⟨b0, of + i * 4 + 2, none⟩ = some (.int .i64 aa) ∧ w'.cell? ⟨b0, of + i * 4 + 3, none⟩ = some (.int .i64 nn)) (by kernel_rfl) (by ((try dsimp only); first | (with_reducible assumption) | ((repeat' (with_reducible apply And.intro)) <;> go_simp))) (fun hH0 => ?_)
            refine wpAnyH_take (i := 1) (oi := { dst := some 32, op := Go.Op.move (Go.Operand.tmp 3), type := 27, pos := "ref.go:72", after := #[], guard := none }) (v := ?_) rfl (by kernel_rfl) (by kernel_rfl) (by kernel_rfl) (fun _ _ _ h => h) (Or.inl ⟨by rfl, ?_⟩) (by assumption) ?_
            rotate_left
            · (intro w hSw; (try dsimp only at hSw); go_simp) <;> (with_reducible rfl)
            simp only [Act.put, List.setIfInBounds_toArray, List.set_cons_zero, List.set_cons_succ]
            refine wpAnyH_take (i := 2) (oi := { dst := some 33, op := Go.Op.move (Go.Operand.tmp 5), type := 3, pos := "ref.go:72", after := #[], guard := none }) (v := ?_) rfl (by kernel_rfl) (by kernel_rfl) (by kernel_rfl) (fun _ _ _ h => h) (Or.inl ⟨by rfl, ?_⟩) (by assumption) ?_
            rotate_left
            · (intro w hSw; (try dsimp only at hSw); go_simp) <;> (with_reducible rfl)
            simp only [Act.put, List.setIfInBounds_toArray, List.set_cons_zero, List.set_cons_succ]
            refine wpAnyH_take (i := 3) (oi := { dst := some 34, op := Go.Op.slice 27 (Go.Operand.tmp 32) none (some (Go.Operand.tmp 33)) none, type := 27, pos := "ref.go:72", after := #[{ on := 1, ground := Go.Ground.data }, { on := 2, ground := Go.Ground.data }], guard := none }) (v := ?_) rfl (by kernel_rfl) (by kernel_rfl) (by kernel_rfl) (fun _ _ _ h => h) (Or.inl ⟨by rfl, ?_⟩) (by assumption) ?_
            rotate_left
            · (intro w hSw; (try dsimp only at hSw); go_simp) <;> (with_reducible rfl)
            simp only [Act.put, List.setIfInBounds_toArray, List.set_cons_zero, List.set_cons_succ]
            refine wpAnyH_take (i := 5) (oi := { dst := some 36, op := Go.Op.move (Go.Operand.tmp 0), type := 27, pos := "ref.go:72", after := #[], guard := none }) (v := ?_) rfl (by kernel_rfl) (by kernel_rfl) (by kernel_rfl) (fun _ _ _ h => h) (Or.inl ⟨by rfl, ?_⟩) (by assumption) ?_
            rotate_left
            · (intro w hSw; (try dsimp only at hSw); go_simp) <;> (with_reducible rfl)
            simp only [Act.put, List.setIfInBounds_toArray, List.set_cons_zero, List.set_cons_succ]
            refine wpAnyH_take (i := 6) (oi := { dst := some 37, op := Go.Op.move (Go.Operand.tmp 4), type := 3, pos := "ref.go:72", after := #[], guard := none }) (v := ?_) rfl (by kernel_rfl) (by kernel_rfl) (by kernel_rfl) (fun _ _ _ h => h) (Or.inl ⟨by rfl, ?_⟩) (by assumption) ?_
            rotate_left
            · (intro w hSw; (try dsimp only at hSw); go_simp) <;> (with_reducible rfl)
            simp only [Act.put, List.setIfInBounds_toArray, List.set_cons_zero, List.set_cons_succ]
            refine wpAnyH_take (i := 7) (oi := { dst := some 38, op := Go.Op.indexAddr 27 (Go.Operand.tmp 36) (Go.Operand.tmp 37), type := 0, pos := "ref.go:72", after := #[{ on := 5, ground := Go.Ground.data }, { on := 6, ground := Go.Ground.data }], guard := none }) (v := ?_) rfl (by kernel_rfl) (by kernel_rfl) (by kernel_rfl) (fun _ _ _ h => h) (Or.inl ⟨by rfl, ?_⟩) (by assumption) ?_
            rotate_left
            · (intro w hSw; (try dsimp only at hSw); go_simp) <;> (with_reducible rfl)
            simp only [Act.put, List.setIfInBounds_toArray, List.set_cons_zero, List.set_cons_succ]
            refine wpAnyH_take (i := 8) (oi := { dst := some 39, op := Go.Op.load 39 (Go.Operand.tmp 38), type := 39, pos := "ref.go:72", after := #[{ on := 7, ground := Go.Ground.data }], guard := none }) (v := ?_) rfl (by kernel_rfl) (by kernel_rfl) (by kernel_rfl) (fun _ _ _ h => h) (Or.inl ⟨by rfl, ?_⟩) (by assumption) ?_
            rotate_left
            · (intro w hSw; (try dsimp only at hSw); go_simp) <;> (with_reducible rfl)
            simp only [Act.put, List.setIfInBounds_toArray, List.set_cons_zero, List.set_cons_succ]
            refine wpAnyH_ready (rs := [0, 9]) (by kernel_rfl) (by simp) ?_
            refine (AllReadyH.cons (o := { dst := some 31, op := Go.Op.buildSlice 27 0 #[], type := 27, pos := "ref.go:72", after := #[], guard := none }) rfl (fun Kc hKc => ?_) (AllReadyH.cons (o := { dst := some 40, op := Go.Op.buildSlice 27 1 #[(0, Go.Operand.tmp 39)], type := 27, pos := "ref.go:72", after := #[{ on := 8, ground := Go.Ground.data }], guard := none }) rfl (fun Kc hKc => ?_) AllReadyH.nil))
            · go_simp
              have gN : G wr ((wr.alloc (.cells #[] 39)).drew.drew) := (show G wr wr by first | with_reducible exact gC | exact G.refl _).trans (by (repeat' (first | (with_reducible exact G.refl _) | (with_reducible refine G.drewN ?_ _) | (with_reducible refine G.drew ?_) | (with_reducible refine G.alloc ?_ _))))
              have gS : G wr ((wr.alloc (.cells #[] 39)).drew.drew) := by (repeat' (first | (with_reducible exact G.refl _) | (with_reducible refine G.drewN ?_ _) | (with_reducible refine G.drew ?_) | (with_reducible refine G.alloc ?_ _)))
              have HE' := Lib.hid (own_later (row_new wr wr.heap.size (by simp) 39 4) (show G _ ((wr.alloc (.cells #[] 39)).drew.drew) by (repeat' (first | (with_reducible exact G.refl _) | (with_reducible refine G.drewN ?_ _) | (with_reducible refine G.drew ?_) | (with_reducible refine G.alloc ?_ _)))))
              obtain ⟨y0, y1, y2, y3⟩ := FX.out.later gN
              dsimp only at y0 y1 y2 y3
              refine hKc.out _ _ (by ((try dsimp only); first | (with_reducible assumption) | ((repeat' (with_reducible apply And.intro)) <;> go_simp))) (fun hH1 => ?_)
              clear hKc Kc hH0
              clear y0 y1 y2 y3 gS
              have HBL := Lib.hid (show wr.heap.size < ((wr.alloc (.cells #[] 39)).drew.drew).heap.size by simp)
              obtain ⟨W1, hW1⟩ : ∃ z : World, Hid ((wr.alloc (.cells #[] 39)).drew.drew = z) := ⟨_, rfl⟩
              rw [hW1.out] at gN HBL HE' ⊢
              obtain ⟨BE, hBE⟩ : ∃ z : Nat, Hid (wr.heap.size = z) := ⟨_, rfl⟩
              rw [hBE.out] at HBL HE' ⊢
              have HBG := Lib.hid (show wr.heap.size ≤ BE by rw [← hBE.out]; exact (show G wr wr by first | with_reducible exact gC | exact G.refl _).size)
              clear gC
              have gC := gN
              clear gN
              have HE := HE'
              clear HE'
              have HBE := HBL
              have HBEG := HBG
              clear HBL HBG
              refine wpAnyH_ready (rs := [4, 9]) (by kernel_rfl) (by simp) ?_
              refine (AllReadyH.cons (o := { dst := some 35, op := Go.Op.call { callee := Go.Callee.builtin Go.Builtin.append, args := #[Go.Operand.tmp 31, Go.Operand.tmp 34], argTypes := #[27, 27] }, type := 27, pos := "ref.go:72", after := #[{ on := 0, ground := Go.Ground.data }, { on := 3, ground := Go.Ground.data }], guard := none }) rfl (fun Kc hKc => ?_) (AllReadyH.cons (o := { dst := some 40, op := Go.Op.buildSlice 27 1 #[(0, Go.Operand.tmp 39)], type := 27, pos := "ref.go:72", after := #[{ on := 8, ground := Go.Ground.data }], guard := none }) rfl (fun Kc hKc => ?_) AllReadyH.nil))
              · refine step_append_any rfl _ _ 27 rfl wr.heap.size 39 i0 (.agg #[.int .i64 0, .int .i64 0, .int .i64 0, .int .i64 0]) 4 32 Try.underlying27 hi0 hz0 hz1 hz2 rfl (by decide) BE 0 0 [] rfl (own_base (own_later HE.out (by (repeat' (first | (with_reducible exact G.refl _) | (with_reducible refine G.drewN ?_ _) | (with_reducible refine G.drew ?_) | (with_reducible refine G.alloc ?_ _))))) HBEG.out) none 0 0 (([] : List Tu).flatMap tuE) rfl (fun _ => ⟨rfl, rfl⟩) (rfl) (fun ad ha => by cases ha) (flat_one _) (by unfold maxLen; have := HML.out; omega) (by have := HML.out; omega) (by have := gC.size; simp [go_sem]; try omega) ?_
                intro g8 c8 w8 hown8 hgrow8
                simp only [Nat.zero_add] at hown8
                try simp only [Nat.zero_add]
                have gN : G wr w8 := Below.grown (B := wr.heap.size) (show G wr _ from gC.trans (by (repeat' (first | (with_reducible exact G.refl _) | (with_reducible refine G.drewN ?_ _) | (with_reducible refine G.drew ?_) | (with_reducible refine G.alloc ?_ _))))) hgrow8 (by have := gC.size; simp [go_sem]; try omega) (fun k hk => by obtain rfl := Option.some.inj hk; exact HBEG.out)
                obtain ⟨y0, y1, y2, y3⟩ := FX.out.later gN
                dsimp only at y0 y1 y2 y3
                refine hKc.out _ _ (by ((try dsimp only); first | (with_reducible assumption) | ((repeat' (with_reducible apply And.intro)) <;> go_simp))) (fun hH2 => ?_)
                clear hKc Kc hH1
                clear y0 y1 y2 y3
                have H8 := Lib.hid hown8
                have B8 := Lib.hid (own_ge hown8)
                clear hown8 hgrow8 gC HE
                have gC := gN
                clear gN
                refine wpAnyH_ready (rs := [9]) (by kernel_rfl) (by simp) ?_
                refine (AllReadyH.cons (o := { dst := some 40, op := Go.Op.buildSlice 27 1 #[(0, Go.Operand.tmp 39)], type := 27, pos := "ref.go:72", after := #[{ on := 8, ground := Go.Ground.data }], guard := none }) rfl (fun Kc hKc => ?_) AllReadyH.nil)
                go_simp
                have gN : G wr ((w8.alloc (.cells #[.int .i64 f, .int .i64 cc, .int .i64 aa, .int .i64 nn] 39))) := (show G wr w8 by first | with_reducible exact gC | exact G.refl _).trans (by (repeat' (first | (with_reducible exact G.refl _) | (with_reducible refine G.drewN ?_ _) | (with_reducible refine G.drew ?_) | (with_reducible refine G.alloc ?_ _))))
                have gS : G w8 ((w8.alloc (.cells #[.int .i64 f, .int .i64 cc, .int .i64 aa, .int .i64 nn] 39))) := by (repeat' (first | (with_reducible exact G.refl _) | (with_reducible refine G.drewN ?_ _) | (with_reducible refine G.drew ?_) | (with_reducible refine G.alloc ?_ _)))
                have HX' := Lib.hid (show (∀ j u, ([.int .i64 f, .int .i64 cc, .int .i64 aa, .int .i64 nn] : List Value)[j]? = some u → ((w8.alloc (.cells #[.int .i64 f, .int .i64 cc, .int .i64 aa, .int .i64 nn] 39))).cell? ((⟨w8.heap.size, 0, none⟩ : Addr).add j) = some u) ∧ w8.heap.size < ((w8.alloc (.cells #[.int .i64 f, .int .i64 cc, .int .i64 aa, .int .i64 nn] 39))).heap.size from ⟨later_news (show G (w8.alloc (.cells #[.int .i64 f, .int .i64 cc, .int .i64 aa, .int .i64 nn] 39)) ((w8.alloc (.cells #[.int .i64 f, .int .i64 cc, .int .i64 aa, .int .i64 nn] 39))) by (repeat' (first | (with_reducible exact G.refl _) | (with_reducible refine G.drewN ?_ _) | (with_reducible refine G.drew ?_) | (with_reducible refine G.alloc ?_ _)))) (new_add _ _ [.int .i64 f, .int .i64 cc, .int .i64 aa, .int .i64 nn] 39 (by simp)), by simp⟩)
                have H8' := Lib.hid (own_later H8.out gS)
                obtain ⟨y0, y1, y2, y3⟩ := FX.out.later gN
                dsimp only at y0 y1 y2 y3
                refine hKc.out _ _ (by ((try dsimp only); first | (with_reducible assumption) | ((repeat' (with_reducible apply And.intro)) <;> go_simp))) (fun hH3 => ?_)
                clear hKc Kc hH2
                clear y0 y1 y2 y3 gS
                have HBL := Lib.hid (show w8.heap.size < ((w8.alloc (.cells #[.int .i64 f, .int .i64 cc, .int .i64 aa, .int .i64 nn] 39))).heap.size by simp)
                obtain ⟨W2, hW2⟩ : ∃ z : World, Hid ((w8.alloc (.cells #[.int .i64 f, .int .i64 cc, .int .i64 aa, .int .i64 nn] 39)) = z) := ⟨_, rfl⟩
                rw [hW2.out] at gN HBL HX' H8' ⊢
                obtain ⟨BX, hBX⟩ : ∃ z : Nat, Hid (w8.heap.size = z) := ⟨_, rfl⟩
                rw [hBX.out] at HBL HX' ⊢
                have HBG := Lib.hid (show wr.heap.size ≤ BX by rw [← hBX.out]; exact (show G wr w8 by first | with_reducible exact gC | exact G.refl _).size)
                clear gC
                have gC := gN
                clear gN
                have HX := HX'
                clear HX'
                clear H8
                have H8 := H8'
                clear H8'
                clear HBL HBG
                refine wpAnyH_ready (rs := [10]) (by kernel_rfl) (by simp) ?_
                refine (AllReadyH.cons (o := { dst := some 41, op := Go.Op.call { callee := Go.Callee.builtin Go.Builtin.append, args := #[Go.Operand.tmp 35, Go.Operand.tmp 40], argTypes := #[27, 27] }, type := 27, pos := "ref.go:72", after := #[{ on := 4, ground := Go.Ground.data }, { on := 9, ground := Go.Ground.data }, { on := 4, ground := Go.Ground.chain }], guard := none }) rfl (fun Kc hKc => ?_) AllReadyH.nil)
                refine step_append_any rfl _ _ 27 rfl wr.heap.size 39 i0 (.agg #[.int .i64 0, .int .i64 0, .int .i64 0, .int .i64 0]) 4 32 Try.underlying27 hi0 hz0 hz1 hz2 rfl (by decide) g8 0 c8 ([] ++ ([] : List Tu).flatMap tuE) rfl (own_later H8.out (by (repeat' (first | (with_reducible exact G.refl _) | (with_reducible refine G.drewN ?_ _) | (with_reducible refine G.drew ?_) | (with_reducible refine G.alloc ?_ _))))) (some _) 1 1 [.int .i64 f, .int .i64 cc, .int .i64 aa, .int .i64 nn] rfl (fun h => by cases h) rfl (fun ad ha => by obtain rfl := Option.some.inj ha; exact later_news (by (repeat' (first | (with_reducible exact G.refl _) | (with_reducible refine G.drewN ?_ _) | (with_reducible refine G.drew ?_) | (with_reducible refine G.alloc ?_ _)))) HX.out.1) (flat_one [⟨f, cc, aa, nn⟩]) (by unfold maxLen; have := HML.out; omega) (by have := HML.out; omega) (by have := gC.size; simp [go_sem]; try omega) ?_
                intro g9 c9 w9 hown9 hgrow9
                have gN : G wr w9 := Below.grown (B := wr.heap.size) (show G wr _ from gC.trans (by (repeat' (first | (with_reducible exact G.refl _) | (with_reducible refine G.drewN ?_ _) | (with_reducible refine G.drew ?_) | (with_reducible refine G.alloc ?_ _))))) hgrow9 (by have := gC.size; simp [go_sem]; try omega) (fun k hk => by obtain rfl := Option.some.inj hk; exact B8.out)
                obtain ⟨y0, y1, y2, y3⟩ := FX.out.later gN
                dsimp only at y0 y1 y2 y3
                refine hKc.out _ _ (by ((try dsimp only); first | (with_reducible assumption) | ((repeat' (with_reducible apply And.intro)) <;> go_simp))) (fun hH4 => ?_)
                clear hKc Kc hH3
                clear y0 y1 y2 y3
                have H9 := Lib.hid hown9
                have B9 := Lib.hid (own_ge hown9)
                clear hown9 hgrow9 gC H8 HX
                have gN9 := gN
                clear gN
                refine wpAnyH_take (i := 11) (oi := { dst := some 6, op := Go.Op.assign (Go.Operand.tmp 41), type := 27, pos := "ref.go:72", after := #[{ on := 10, ground := Go.Ground.data }, { on := 10, ground := Go.Ground.chain }, { on := 0, ground := Go.Ground.phase }, { on := 1, ground := Go.Ground.phase }, { on := 2, ground := Go.Ground.phase }, { on := 3, ground := Go.Ground.phase }, { on := 4, ground := Go.Ground.phase }, { on := 5, ground := Go.Ground.phase }, { on := 6, ground := Go.Ground.phase }, { on := 7, ground := Go.Ground.phase }, { on := 8, ground := Go.Ground.phase }, { on := 9, ground := Go.Ground.phase }, { on := 10, ground := Go.Ground.phase }], guard := none }) (v := ?_) rfl (by kernel_rfl) (by kernel_rfl) (by kernel_rfl) (fun _ _ _ h => h) (Or.inl ⟨by rfl, ?_⟩) (by assumption) ?_
                rotate_left
                · (intro w hSw; (try dsimp only at hSw); go_simp) <;> (with_reducible rfl)
                simp only [Act.put, List.setIfInBounds_toArray, List.set_cons_zero, List.set_cons_succ]
                refine wpAnyH_done (by kernel_rfl) ?_ _
                go_wp2_with (at_builtin; refine append_all rfl _ _ 27 rfl wr.heap.size 39 i0 (.agg #[.int .i64 0, .int .i64 0, .int .i64 0, .int .i64 0]) 4 32 Try.underlying27 hi0 hz0 hz1 hz2 rfl (by decide) (.slice (some ⟨g9, 0, none⟩) (0 + 1) c9) (0 + 1) _ rfl (own_later H9.out (by (repeat' (first | (with_reducible exact G.refl _) | (with_reducible refine G.drewN ?_ _) | (with_reducible refine G.drew ?_) | (with_reducible refine G.alloc ?_ _))))) none 0 0 (([] : List Tu).flatMap tuE) rfl (fun _ => ⟨rfl, rfl⟩) (rfl) (fun ad ha => by cases ha) (flat_one _) (by unfold maxLen; have := HML.out; omega) (by have := HML.out; omega) (by have := gN9.size; simp [go_sem]; try omega) ?_; intro v' w10 hown10 hgrow10 _)
                all_goals
                  have gN10 : G wr w10 := Below.grown (B := wr.heap.size) (gN9.trans (show G w9 _ by (repeat' (first | (with_reducible exact G.refl _) | (with_reducible assumption) | (with_reducible refine G.drewN ?_ _) | (with_reducible refine G.drew ?_) | (with_reducible refine G.alloc ?_ _) | (with_reducible refine G.setCell ?_ (by first | (with_reducible exact Nat.le_refl _) | (simp; done) | (simp; omega) | omega) _) | (with_reducible refine G.trans ?_ (by assumption)))))) hgrow10 (by have := gN9.size; simp [go_sem]; try omega) (fun k hk => by have : g9 = k := (by simpa [Value.ownBlock] using hk); have := B9.out; omega)
                  have RN := Lib.hid (row_of (M := (rs (l.take (i + 1))).reverse) hown10 (by rw [HEND.out]; rfl) (by rw [HEND.out]; rfl))
                  go_roundg (n - (i + 1))
                  case measure => have := HK.out; have := HI.out; omega
                  case rel => exact ⟨i + 1, v', rfl, by first | rfl | go_num, rfl, by have := HI.out; omega, Lib.hid (own_base RN.out HG2.out), gwr.trans gN10⟩
              · go_simp
                have gN : G wr ((W1.alloc (.cells #[.int .i64 f, .int .i64 cc, .int .i64 aa, .int .i64 nn] 39))) := (show G wr W1 by first | with_reducible exact gC | exact G.refl _).trans (by (repeat' (first | (with_reducible exact G.refl _) | (with_reducible refine G.drewN ?_ _) | (with_reducible refine G.drew ?_) | (with_reducible refine G.alloc ?_ _))))
                have gS : G W1 ((W1.alloc (.cells #[.int .i64 f, .int .i64 cc, .int .i64 aa, .int .i64 nn] 39))) := by (repeat' (first | (with_reducible exact G.refl _) | (with_reducible refine G.drewN ?_ _) | (with_reducible refine G.drew ?_) | (with_reducible refine G.alloc ?_ _)))
                have HX' := Lib.hid (show (∀ j u, ([.int .i64 f, .int .i64 cc, .int .i64 aa, .int .i64 nn] : List Value)[j]? = some u → ((W1.alloc (.cells #[.int .i64 f, .int .i64 cc, .int .i64 aa, .int .i64 nn] 39))).cell? ((⟨W1.heap.size, 0, none⟩ : Addr).add j) = some u) ∧ W1.heap.size < ((W1.alloc (.cells #[.int .i64 f, .int .i64 cc, .int .i64 aa, .int .i64 nn] 39))).heap.size from ⟨later_news (show G (W1.alloc (.cells #[.int .i64 f, .int .i64 cc, .int .i64 aa, .int .i64 nn] 39)) ((W1.alloc (.cells #[.int .i64 f, .int .i64 cc, .int .i64 aa, .int .i64 nn] 39))) by (repeat' (first | (with_reducible exact G.refl _) | (with_reducible refine G.drewN ?_ _) | (with_reducible refine G.drew ?_) | (with_reducible refine G.alloc ?_ _)))) (new_add _ _ [.int .i64 f, .int .i64 cc, .int .i64 aa, .int .i64 nn] 39 (by simp)), by simp⟩)
                have HE' := Lib.hid (own_later HE.out gS)
                have HNE' := Lib.hid (show W1.heap.size ≠ BE by have := HBE.out; omega)
                obtain ⟨y0, y1, y2, y3⟩ := FX.out.later gN
                dsimp only at y0 y1 y2 y3
                refine hKc.out _ _ (by ((try dsimp only); first | (with_reducible assumption) | ((repeat' (with_reducible apply And.intro)) <;> go_simp))) (fun hH5 => ?_)
                clear hKc Kc hH1
                clear y0 y1 y2 y3 gS
                have HBL := Lib.hid (show W1.heap.size < ((W1.alloc (.cells #[.int .i64 f, .int .i64 cc, .int .i64 aa, .int .i64 nn] 39))).heap.size by simp)
                obtain ⟨W2, hW2⟩ : ∃ z : World, Hid ((W1.alloc (.cells #[.int .i64 f, .int .i64 cc, .int .i64 aa, .int .i64 nn] 39)) = z) := ⟨_, rfl⟩
                rw [hW2.out] at gN HBL HE' HX' ⊢
                obtain ⟨BX, hBX⟩ : ∃ z : Nat, Hid (W1.heap.size = z) := ⟨_, rfl⟩
                rw [hBX.out] at HBL HX' HNE' ⊢
                have HBG := Lib.hid (show wr.heap.size ≤ BX by rw [← hBX.out]; exact (show G wr W1 by first | with_reducible exact gC | exact G.refl _).size)
                clear gC
                have gC := gN
                clear gN
                clear HE
                have HE := HE'
                clear HE'
                have HX := HX'
                clear HX'
                have HNE := HNE'
                clear HNE'
                clear HBL HBG
                refine wpAnyH_ready (rs := [4]) (by kernel_rfl) (by simp) ?_
                refine (AllReadyH.cons (o := { dst := some 35, op := Go.Op.call { callee := Go.Callee.builtin Go.Builtin.append, args := #[Go.Operand.tmp 31, Go.Operand.tmp 34], argTypes := #[27, 27] }, type := 27, pos := "ref.go:72", after := #[{ on := 0, ground := Go.Ground.data }, { on := 3, ground := Go.Ground.data }], guard := none }) rfl (fun Kc hKc => ?_) AllReadyH.nil)
                refine step_append_any rfl _ _ 27 rfl wr.heap.size 39 i0 (.agg #[.int .i64 0, .int .i64 0, .int .i64 0, .int .i64 0]) 4 32 Try.underlying27 hi0 hz0 hz1 hz2 rfl (by decide) BE 0 0 [] rfl (own_base (own_later HE.out (by (repeat' (first | (with_reducible exact G.refl _) | (with_reducible refine G.drewN ?_ _) | (with_reducible refine G.drew ?_) | (with_reducible refine G.alloc ?_ _))))) HBEG.out) none 0 0 (([] : List Tu).flatMap tuE) rfl (fun _ => ⟨rfl, rfl⟩) (rfl) (fun ad ha => by cases ha) (flat_one _) (by unfold maxLen; have := HML.out; omega) (by have := HML.out; omega) (by have := gC.size; simp [go_sem]; try omega) ?_
                intro g8 c8 w8 hown8 hgrow8
                simp only [Nat.zero_add] at hown8
                try simp only [Nat.zero_add]
                have gN : G wr w8 := Below.grown (B := wr.heap.size) (show G wr _ from gC.trans (by (repeat' (first | (with_reducible exact G.refl _) | (with_reducible refine G.drewN ?_ _) | (with_reducible refine G.drew ?_) | (with_reducible refine G.alloc ?_ _))))) hgrow8 (by have := gC.size; simp [go_sem]; try omega) (fun k hk => by obtain rfl := Option.some.inj hk; exact HBEG.out)
                have HX' := Lib.hid (show (∀ j u, ([.int .i64 f, .int .i64 cc, .int .i64 aa, .int .i64 nn] : List Value)[j]? = some u → w8.cell? ((⟨BX, 0, none⟩ : Addr).add j) = some u) ∧ BX < w8.heap.size from ⟨keep_news hgrow8 (by have := HX.out.2; simp [go_sem]; try omega) (by simp only [ne_eq, Option.some.injEq]; exact HNE.out) (later_news (by (repeat' (first | (with_reducible exact G.refl _) | (with_reducible refine G.drewN ?_ _) | (with_reducible refine G.drew ?_) | (with_reducible refine G.alloc ?_ _)))) HX.out.1), Nat.lt_of_lt_of_le (by have := HX.out.2; simp [go_sem]; try omega) hgrow8.size⟩)
                clear HX
                have HX := HX'
                clear HX'
                obtain ⟨y0, y1, y2, y3⟩ := FX.out.later gN
                dsimp only at y0 y1 y2 y3
                refine hKc.out _ _ (by ((try dsimp only); first | (with_reducible assumption) | ((repeat' (with_reducible apply And.intro)) <;> go_simp))) (fun hH6 => ?_)
                clear hKc Kc hH5
                clear y0 y1 y2 y3
                have H8 := Lib.hid hown8
                have B8 := Lib.hid (own_ge hown8)
                clear hown8 hgrow8 gC HE
                have gC := gN
                clear gN
                refine wpAnyH_ready (rs := [10]) (by kernel_rfl) (by simp) ?_
                refine (AllReadyH.cons (o := { dst := some 41, op := Go.Op.call { callee := Go.Callee.builtin Go.Builtin.append, args := #[Go.Operand.tmp 35, Go.Operand.tmp 40], argTypes := #[27, 27] }, type := 27, pos := "ref.go:72", after := #[{ on := 4, ground := Go.Ground.data }, { on := 9, ground := Go.Ground.data }, { on := 4, ground := Go.Ground.chain }], guard := none }) rfl (fun Kc hKc => ?_) AllReadyH.nil)
                refine step_append_any rfl _ _ 27 rfl wr.heap.size 39 i0 (.agg #[.int .i64 0, .int .i64 0, .int .i64 0, .int .i64 0]) 4 32 Try.underlying27 hi0 hz0 hz1 hz2 rfl (by decide) g8 0 c8 ([] ++ ([] : List Tu).flatMap tuE) rfl (own_later H8.out (by (repeat' (first | (with_reducible exact G.refl _) | (with_reducible refine G.drewN ?_ _) | (with_reducible refine G.drew ?_) | (with_reducible refine G.alloc ?_ _))))) (some _) 1 1 [.int .i64 f, .int .i64 cc, .int .i64 aa, .int .i64 nn] rfl (fun h => by cases h) rfl (fun ad ha => by obtain rfl := Option.some.inj ha; exact later_news (by (repeat' (first | (with_reducible exact G.refl _) | (with_reducible refine G.drewN ?_ _) | (with_reducible refine G.drew ?_) | (with_reducible refine G.alloc ?_ _)))) HX.out.1) (flat_one [⟨f, cc, aa, nn⟩]) (by unfold maxLen; have := HML.out; omega) (by have := HML.out; omega) (by have := gC.size; simp [go_sem]; try omega) ?_
                intro g9 c9 w9 hown9 hgrow9
                have gN : G wr w9 := Below.grown (B := wr.heap.size) (show G wr _ from gC.trans (by (repeat' (first | (with_reducible exact G.refl _) | (with_reducible refine G.drewN ?_ _) | (with_reducible refine G.drew ?_) | (with_reducible refine G.alloc ?_ _))))) hgrow9 (by have := gC.size; simp [go_sem]; try omega) (fun k hk => by obtain rfl := Option.some.inj hk; exact B8.out)
                obtain ⟨y0, y1, y2, y3⟩ := FX.out.later gN
                dsimp only at y0 y1 y2 y3
                refine hKc.out _ _ (by ((try dsimp only); first | (with_reducible assumption) | ((repeat' (with_reducible apply And.intro)) <;> go_simp))) (fun hH7 => ?_)
                clear hKc Kc hH6
                clear y0 y1 y2 y3
                have H9 := Lib.hid hown9
                have B9 := Lib.hid (own_ge hown9)
                clear hown9 hgrow9 gC H8 HX
                have gN9 := gN
                clear gN
                refine wpAnyH_take (i := 11) (oi := { dst := some 6, op := Go.Op.assign (Go.Operand.tmp 41), type := 27, pos := "ref.go:72", after := #[{ on := 10, ground := Go.Ground.data }, { on := 10, ground := Go.Ground.chain }, { on := 0, ground := Go.Ground.phase }, { on := 1, ground := Go.Ground.phase }, { on := 2, ground := Go.Ground.phase }, { on := 3, ground := Go.Ground.phase }, { on := 4, ground := Go.Ground.phase }, { on := 5, ground := Go.Ground.phase }, { on := 6, ground := Go.Ground.phase }, { on := 7, ground := Go.Ground.phase }, { on := 8, ground := Go.Ground.phase }, { on := 9, ground := Go.Ground.phase }, { on := 10, ground := Go.Ground.phase }], guard := none }) (v := ?_) rfl (by kernel_rfl) (by kernel_rfl) (by kernel_rfl) (fun _ _ _ h => h) (Or.inl ⟨by rfl, ?_⟩) (by assumption) ?_
                rotate_left
                · (intro w hSw; (try dsimp only at hSw); go_simp) <;> (with_reducible rfl)
                simp only [Act.put, List.setIfInBounds_toArray, List.set_cons_zero, List.set_cons_succ]
                refine wpAnyH_done (by kernel_rfl) ?_ _
                go_wp2_with (at_builtin; refine append_all rfl _ _ 27 rfl wr.heap.size 39 i0 (.agg #[.int .i64 0, .int .i64 0, .int .i64 0, .int .i64 0]) 4 32 Try.underlying27 hi0 hz0 hz1 hz2 rfl (by decide) (.slice (some ⟨g9, 0, none⟩) (0 + 1) c9) (0 + 1) _ rfl (own_later H9.out (by (repeat' (first | (with_reducible exact G.refl _) | (with_reducible refine G.drewN ?_ _) | (with_reducible refine G.drew ?_) | (with_reducible refine G.alloc ?_ _))))) none 0 0 (([] : List Tu).flatMap tuE) rfl (fun _ => ⟨rfl, rfl⟩) (rfl) (fun ad ha => by cases ha) (flat_one _) (by unfold maxLen; have := HML.out; omega) (by have := HML.out; omega) (by have := gN9.size; simp [go_sem]; try omega) ?_; intro v' w10 hown10 hgrow10 _)
                all_goals
                  have gN10 : G wr w10 := Below.grown (B := wr.heap.size) (gN9.trans (show G w9 _ by (repeat' (first | (with_reducible exact G.refl _) | (with_reducible assumption) | (with_reducible refine G.drewN ?_ _) | (with_reducible refine G.drew ?_) | (with_reducible refine G.alloc ?_ _) | (with_reducible refine G.setCell ?_ (by first | (with_reducible exact Nat.le_refl _) | (simp; done) | (simp; omega) | omega) _) | (with_reducible refine G.trans ?_ (by assumption)))))) hgrow10 (by have := gN9.size; simp [go_sem]; try omega) (fun k hk => by have : g9 = k := (by simpa [Value.ownBlock] using hk); have := B9.out; omega)
                  have RN := Lib.hid (row_of (M := (rs (l.take (i + 1))).reverse) hown10 (by rw [HEND.out]; rfl) (by rw [HEND.out]; rfl))
                  go_roundg (n - (i + 1))
                  case measure => have := HK.out; have := HI.out; omega
                  case rel => exact ⟨i + 1, v', rfl, by first | rfl | go_num, rfl, by have := HI.out; omega, Lib.hid (own_base RN.out HG2.out), gwr.trans gN10⟩
            · go_simp
              have gN : G wr ((wr.alloc (.cells #[.int .i64 f, .int .i64 cc, .int .i64 aa, .int .i64 nn] 39)).drew.drew) := (show G wr wr by first | with_reducible exact gC | exact G.refl _).trans (by (repeat' (first | (with_reducible exact G.refl _) | (with_reducible refine G.drewN ?_ _) | (with_reducible refine G.drew ?_) | (with_reducible refine G.alloc ?_ _))))
              have gS : G wr ((wr.alloc (.cells #[.int .i64 f, .int .i64 cc, .int .i64 aa, .int .i64 nn] 39)).drew.drew) := by (repeat' (first | (with_reducible exact G.refl _) | (with_reducible refine G.drewN ?_ _) | (with_reducible refine G.drew ?_) | (with_reducible refine G.alloc ?_ _)))
              have HX' := Lib.hid (show (∀ j u, ([.int .i64 f, .int .i64 cc, .int .i64 aa, .int .i64 nn] : List Value)[j]? = some u → ((wr.alloc (.cells #[.int .i64 f, .int .i64 cc, .int .i64 aa, .int .i64 nn] 39)).drew.drew).cell? ((⟨wr.heap.size, 0, none⟩ : Addr).add j) = some u) ∧ wr.heap.size < ((wr.alloc (.cells #[.int .i64 f, .int .i64 cc, .int .i64 aa, .int .i64 nn] 39)).drew.drew).heap.size from ⟨later_news (show G (wr.alloc (.cells #[.int .i64 f, .int .i64 cc, .int .i64 aa, .int .i64 nn] 39)) ((wr.alloc (.cells #[.int .i64 f, .int .i64 cc, .int .i64 aa, .int .i64 nn] 39)).drew.drew) by (repeat' (first | (with_reducible exact G.refl _) | (with_reducible refine G.drewN ?_ _) | (with_reducible refine G.drew ?_) | (with_reducible refine G.alloc ?_ _)))) (new_add _ _ [.int .i64 f, .int .i64 cc, .int .i64 aa, .int .i64 nn] 39 (by simp)), by simp⟩)
              obtain ⟨y0, y1, y2, y3⟩ := FX.out.later gN
              dsimp only at y0 y1 y2 y3
              refine hKc.out _ _ (by ((try dsimp only); first | (with_reducible assumption) | ((repeat' (with_reducible apply And.intro)) <;> go_simp))) (fun hH8 => ?_)
              clear hKc Kc hH0
              clear y0 y1 y2 y3 gS
              have HBL := Lib.hid (show wr.heap.size < ((wr.alloc (.cells #[.int .i64 f, .int .i64 cc, .int .i64 aa, .int .i64 nn] 39)).drew.drew).heap.size by simp)
              obtain ⟨W1, hW1⟩ : ∃ z : World, Hid ((wr.alloc (.cells #[.int .i64 f, .int .i64 cc, .int .i64 aa, .int .i64 nn] 39)).drew.drew = z) := ⟨_, rfl⟩
              rw [hW1.out] at gN HBL HX' ⊢
              obtain ⟨BX, hBX⟩ : ∃ z : Nat, Hid (wr.heap.size = z) := ⟨_, rfl⟩
              rw [hBX.out] at HBL HX' ⊢
              have HBG := Lib.hid (show wr.heap.size ≤ BX by rw [← hBX.out]; exact (show G wr wr by first | with_reducible exact gC | exact G.refl _).size)
              clear gC
              have gC := gN
              clear gN
              have HX := HX'
              clear HX'
              clear HBL HBG
              refine wpAnyH_ready (rs := [0]) (by kernel_rfl) (by simp) ?_
              refine (AllReadyH.cons (o := { dst := some 31, op := Go.Op.buildSlice 27 0 #[], type := 27, pos := "ref.go:72", after := #[], guard := none }) rfl (fun Kc hKc => ?_) AllReadyH.nil)
              go_simp
              have gN : G wr ((W1.alloc (.cells #[] 39))) := (show G wr W1 by first | with_reducible exact gC | exact G.refl _).trans (by (repeat' (first | (with_reducible exact G.refl _) | (with_reducible refine G.drewN ?_ _) | (with_reducible refine G.drew ?_) | (with_reducible refine G.alloc ?_ _))))
              have gS : G W1 ((W1.alloc (.cells #[] 39))) := by (repeat' (first | (with_reducible exact G.refl _) | (with_reducible refine G.drewN ?_ _) | (with_reducible refine G.drew ?_) | (with_reducible refine G.alloc ?_ _)))
              have HE' := Lib.hid (own_later (row_new W1 W1.heap.size (by simp) 39 4) (show G _ ((W1.alloc (.cells #[] 39))) by (repeat' (first | (with_reducible exact G.refl _) | (with_reducible refine G.drewN ?_ _) | (with_reducible refine G.drew ?_) | (with_reducible refine G.alloc ?_ _)))))
              have HX' := Lib.hid (show (∀ j u, ([.int .i64 f, .int .i64 cc, .int .i64 aa, .int .i64 nn] : List Value)[j]? = some u → ((W1.alloc (.cells #[] 39))).cell? ((⟨BX, 0, none⟩ : Addr).add j) = some u) ∧ BX < ((W1.alloc (.cells #[] 39))).heap.size from ⟨later_news gS HX.out.1, Nat.lt_of_lt_of_le HX.out.2 gS.size⟩)
              have HNE' := Lib.hid (show BX ≠ W1.heap.size by have := HX.out.2; omega)
              obtain ⟨y0, y1, y2, y3⟩ := FX.out.later gN
              dsimp only at y0 y1 y2 y3
              refine hKc.out _ _ (by ((try dsimp only); first | (with_reducible assumption) | ((repeat' (with_reducible apply And.intro)) <;> go_simp))) (fun hH9 => ?_)
              clear hKc Kc hH8
              clear y0 y1 y2 y3 gS
              have HBL := Lib.hid (show W1.heap.size < ((W1.alloc (.cells #[] 39))).heap.size by simp)
              obtain ⟨W2, hW2⟩ : ∃ z : World, Hid ((W1.alloc (.cells #[] 39)) = z) := ⟨_, rfl⟩
              rw [hW2.out] at gN HBL HE' HX' ⊢
              obtain ⟨BE, hBE⟩ : ∃ z : Nat, Hid (W1.heap.size = z) := ⟨_, rfl⟩
              rw [hBE.out] at HBL HE' HNE' ⊢
              have HBG := Lib.hid (show wr.heap.size ≤ BE by rw [← hBE.out]; exact (show G wr W1 by first | with_reducible exact gC | exact G.refl _).size)
              clear gC
              have gC := gN
              clear gN
              have HE := HE'
              clear HE'
              clear HX
              have HX := HX'
              clear HX'
              have HNE := HNE'
              clear HNE'
              have HBE := HBL
              have HBEG := HBG
              clear HBL HBG
              refine wpAnyH_ready (rs := [4]) (by kernel_rfl) (by simp) ?_
              refine (AllReadyH.cons (o := { dst := some 35, op := Go.Op.call { callee := Go.Callee.builtin Go.Builtin.append, args := #[Go.Operand.tmp 31, Go.Operand.tmp 34], argTypes := #[27, 27] }, type := 27, pos := "ref.go:72", after := #[{ on := 0, ground := Go.Ground.data }, { on := 3, ground := Go.Ground.data }], guard := none }) rfl (fun Kc hKc => ?_) AllReadyH.nil)
              refine step_append_any rfl _ _ 27 rfl wr.heap.size 39 i0 (.agg #[.int .i64 0, .int .i64 0, .int .i64 0, .int .i64 0]) 4 32 Try.underlying27 hi0 hz0 hz1 hz2 rfl (by decide) BE 0 0 [] rfl (own_base (own_later HE.out (by (repeat' (first | (with_reducible exact G.refl _) | (with_reducible refine G.drewN ?_ _) | (with_reducible refine G.drew ?_) | (with_reducible refine G.alloc ?_ _))))) HBEG.out) none 0 0 (([] : List Tu).flatMap tuE) rfl (fun _ => ⟨rfl, rfl⟩) (rfl) (fun ad ha => by cases ha) (flat_one _) (by unfold maxLen; have := HML.out; omega) (by have := HML.out; omega) (by have := gC.size; simp [go_sem]; try omega) ?_
              intro g8 c8 w8 hown8 hgrow8
              simp only [Nat.zero_add] at hown8
              try simp only [Nat.zero_add]
              have gN : G wr w8 := Below.grown (B := wr.heap.size) (show G wr _ from gC.trans (by (repeat' (first | (with_reducible exact G.refl _) | (with_reducible refine G.drewN ?_ _) | (with_reducible refine G.drew ?_) | (with_reducible refine G.alloc ?_ _))))) hgrow8 (by have := gC.size; simp [go_sem]; try omega) (fun k hk => by obtain rfl := Option.some.inj hk; exact HBEG.out)
              have HX' := Lib.hid (show (∀ j u, ([.int .i64 f, .int .i64 cc, .int .i64 aa, .int .i64 nn] : List Value)[j]? = some u → w8.cell? ((⟨BX, 0, none⟩ : Addr).add j) = some u) ∧ BX < w8.heap.size from ⟨keep_news hgrow8 (by have := HX.out.2; simp [go_sem]; try omega) (by simp only [ne_eq, Option.some.injEq]; exact HNE.out) (later_news (by (repeat' (first | (with_reducible exact G.refl _) | (with_reducible refine G.drewN ?_ _) | (with_reducible refine G.drew ?_) | (with_reducible refine G.alloc ?_ _)))) HX.out.1), Nat.lt_of_lt_of_le (by have := HX.out.2; simp [go_sem]; try omega) hgrow8.size⟩)
              clear HX
              have HX := HX'
              clear HX'
              obtain ⟨y0, y1, y2, y3⟩ := FX.out.later gN
              dsimp only at y0 y1 y2 y3
              refine hKc.out _ _ (by ((try dsimp only); first | (with_reducible assumption) | ((repeat' (with_reducible apply And.intro)) <;> go_simp))) (fun hH10 => ?_)
              clear hKc Kc hH9
              clear y0 y1 y2 y3
              have H8 := Lib.hid hown8
              have B8 := Lib.hid (own_ge hown8)
              clear hown8 hgrow8 gC HE
              have gC := gN
              clear gN
              refine wpAnyH_ready (rs := [10]) (by kernel_rfl) (by simp) ?_
              refine (AllReadyH.cons (o := { dst := some 41, op := Go.Op.call { callee := Go.Callee.builtin Go.Builtin.append, args := #[Go.Operand.tmp 35, Go.Operand.tmp 40], argTypes := #[27, 27] }, type := 27, pos := "ref.go:72", after := #[{ on := 4, ground := Go.Ground.data }, { on := 9, ground := Go.Ground.data }, { on := 4, ground := Go.Ground.chain }], guard := none }) rfl (fun Kc hKc => ?_) AllReadyH.nil)
              refine step_append_any rfl _ _ 27 rfl wr.heap.size 39 i0 (.agg #[.int .i64 0, .int .i64 0, .int .i64 0, .int .i64 0]) 4 32 Try.underlying27 hi0 hz0 hz1 hz2 rfl (by decide) g8 0 c8 ([] ++ ([] : List Tu).flatMap tuE) rfl (own_later H8.out (by (repeat' (first | (with_reducible exact G.refl _) | (with_reducible refine G.drewN ?_ _) | (with_reducible refine G.drew ?_) | (with_reducible refine G.alloc ?_ _))))) (some _) 1 1 [.int .i64 f, .int .i64 cc, .int .i64 aa, .int .i64 nn] rfl (fun h => by cases h) rfl (fun ad ha => by obtain rfl := Option.some.inj ha; exact later_news (by (repeat' (first | (with_reducible exact G.refl _) | (with_reducible refine G.drewN ?_ _) | (with_reducible refine G.drew ?_) | (with_reducible refine G.alloc ?_ _)))) HX.out.1) (flat_one [⟨f, cc, aa, nn⟩]) (by unfold maxLen; have := HML.out; omega) (by have := HML.out; omega) (by have := gC.size; simp [go_sem]; try omega) ?_
              intro g9 c9 w9 hown9 hgrow9
              have gN : G wr w9 := Below.grown (B := wr.heap.size) (show G wr _ from gC.trans (by (repeat' (first | (with_reducible exact G.refl _) | (with_reducible refine G.drewN ?_ _) | (with_reducible refine G.drew ?_) | (with_reducible refine G.alloc ?_ _))))) hgrow9 (by have := gC.size; simp [go_sem]; try omega) (fun k hk => by obtain rfl := Option.some.inj hk; exact B8.out)
              obtain ⟨y0, y1, y2, y3⟩ := FX.out.later gN
              dsimp only at y0 y1 y2 y3
              refine hKc.out _ _ (by ((try dsimp only); first | (with_reducible assumption) | ((repeat' (with_reducible apply And.intro)) <;> go_simp))) (fun hH11 => ?_)
              clear hKc Kc hH10
              clear y0 y1 y2 y3
              have H9 := Lib.hid hown9
              have B9 := Lib.hid (own_ge hown9)
              clear hown9 hgrow9 gC H8 HX
              have gN9 := gN
              clear gN
              refine wpAnyH_take (i := 11) (oi := { dst := some 6, op := Go.Op.assign (Go.Operand.tmp 41), type := 27, pos := "ref.go:72", after := #[{ on := 10, ground := Go.Ground.data }, { on := 10, ground := Go.Ground.chain }, { on := 0, ground := Go.Ground.phase }, { on := 1, ground := Go.Ground.phase }, { on := 2, ground := Go.Ground.phase }, { on := 3, ground := Go.Ground.phase }, { on := 4, ground := Go.Ground.phase }, { on := 5, ground := Go.Ground.phase }, { on := 6, ground := Go.Ground.phase }, { on := 7, ground := Go.Ground.phase }, { on := 8, ground := Go.Ground.phase }, { on := 9, ground := Go.Ground.phase }, { on := 10, ground := Go.Ground.phase }], guard := none }) (v := ?_) rfl (by kernel_rfl) (by kernel_rfl) (by kernel_rfl) (fun _ _ _ h => h) (Or.inl ⟨by rfl, ?_⟩) (by assumption) ?_
              rotate_left
              · (intro w hSw; (try dsimp only at hSw); go_simp) <;> (with_reducible rfl)
              simp only [Act.put, List.setIfInBounds_toArray, List.set_cons_zero, List.set_cons_succ]
              refine wpAnyH_done (by kernel_rfl) ?_ _
              go_wp2_with (at_builtin; refine append_all rfl _ _ 27 rfl wr.heap.size 39 i0 (.agg #[.int .i64 0, .int .i64 0, .int .i64 0, .int .i64 0]) 4 32 Try.underlying27 hi0 hz0 hz1 hz2 rfl (by decide) (.slice (some ⟨g9, 0, none⟩) (0 + 1) c9) (0 + 1) _ rfl (own_later H9.out (by (repeat' (first | (with_reducible exact G.refl _) | (with_reducible refine G.drewN ?_ _) | (with_reducible refine G.drew ?_) | (with_reducible refine G.alloc ?_ _))))) none 0 0 (([] : List Tu).flatMap tuE) rfl (fun _ => ⟨rfl, rfl⟩) (rfl) (fun ad ha => by cases ha) (flat_one _) (by unfold maxLen; have := HML.out; omega) (by have := HML.out; omega) (by have := gN9.size; simp [go_sem]; try omega) ?_; intro v' w10 hown10 hgrow10 _)
              all_goals
                have gN10 : G wr w10 := Below.grown (B := wr.heap.size) (gN9.trans (show G w9 _ by (repeat' (first | (with_reducible exact G.refl _) | (with_reducible assumption) | (with_reducible refine G.drewN ?_ _) | (with_reducible refine G.drew ?_) | (with_reducible refine G.alloc ?_ _) | (with_reducible refine G.setCell ?_ (by first | (with_reducible exact Nat.le_refl _) | (simp; done) | (simp; omega) | omega) _) | (with_reducible refine G.trans ?_ (by assumption)))))) hgrow10 (by have := gN9.size; simp [go_sem]; try omega) (fun k hk => by have : g9 = k := (by simpa [Value.ownBlock] using hk); have := B9.out; omega)
                have RN := Lib.hid (row_of (M := (rs (l.take (i + 1))).reverse) hown10 (by rw [HEND.out]; rfl) (by rw [HEND.out]; rfl))
                go_roundg (n - (i + 1))
                case measure => have := HK.out; have := HI.out; omega
                case rel => exact ⟨i + 1, v', rfl, by first | rfl | go_num, rfl, by have := HI.out; omega, Lib.hid (own_base RN.out HG2.out), gwr.trans gN10⟩
      · have hML : (rs (l.take i)).reverse.length = i := by rw [List.length_reverse, HRL.out]
        rw [hML] at hcO hR ⊢
        have HCELL := Lib.hid hcell
        have HTM := Lib.hid (show TusAt wr (some ⟨gO, 0, none⟩) (rs (l.take i)).reverse from .inr ⟨gO, 0, rfl, fun k t hk => by
          rw [Nat.zero_add]
          exact ⟨(hcell k t hk 0 _ rfl).1, (hcell k t hk 1 _ rfl).1, (hcell k t hk 2 _ rfl).1, (hcell k t hk 3 _ rfl).1⟩⟩)
        have HCO := Lib.hid hcO
        have HIL := Lib.hid (show i ≤ 20 by have := HI.out; have := HN.out; omega)
        clear hcell hML
        go_wp2_with fail
        go_loopg [5] i (fun k x wr2 => ∃ p q : List Tu, x = .int .i64 q.length ∧ k = q.length ∧ q.length ≤ i ∧ Hid (rs (l.take i) = p ++ q) ∧ Hid (∀ y, y ∈ p → Aft ⟨f, cc, aa, nn⟩ y) ∧ G wr wr2)
        case atStart => exact ⟨[], rs (l.take i), by rw [HRL.out], HRL.out.symm, by rw [HRL.out]; exact Nat.le_refl _, Lib.hid rfl, Lib.hid (by simp), by (repeat' (first | (with_reducible exact G.refl _) | (with_reducible assumption) | (with_reducible refine G.drewN ?_ _) | (with_reducible refine G.drew ?_) | (with_reducible refine G.alloc ?_ _) | (with_reducible refine G.setCell ?_ (by first | (with_reducible exact Nat.le_refl _) | (simp; done) | (simp; omega) | omega) _) | (with_reducible refine G.trans ?_ (by assumption))))⟩
        case round =>
          obtain ⟨p, q, rfl, hk2, hqi, hE, hA, gr2⟩ := hrel
          have HK2 := Lib.hid hk2
          have HG2 := Lib.hid (show w.heap.size ≤ _ from Nat.le_trans gr.size gr2.size)
          have gwr := gr.trans gr2
          obtain ⟨X0, X1, X2, X3⟩ := FC.out.later gwr
          dsimp only at X0 X1 X2 X3
          have HQL := Lib.hid hqi
          have HPL := Lib.hid (show p.length + q.length = i by have := congrArg List.length hE.out; rw [HRL.out, List.length_append] at this; omega)
          have hMM : (rs (l.take i)).reverse = q.reverse ++ p.reverse := by rw [hE.out, List.reverse_append]
          have hTM := HTM.out
          rw [hMM] at hTM
          have hT1 := hTM.take q.length
          rw [List.take_append_of_le_length (by rw [List.length_reverse]; exact Nat.le_refl _), List.take_of_length_le (by rw [List.length_reverse]; exact Nat.le_refl _)] at hT1
          have HNW := Lib.hid (fun j u hj => tus_flat hT1 _ rfl j u hj)
          have HND := Lib.hid (show ∀ j u, (p.reverse.flatMap tuE)[j]? = some u → World.cell? _ ((⟨gO, q.length * 4, none⟩ : Addr).add j) = some u from fun j u hj => by
            rcases hTM with hz | ⟨bb, oo, he, hf⟩
            · have hz2 := (List.append_eq_nil_iff.1 hz).2
              rw [hz2] at hj; simp at hj
            · simp only [Option.some.injEq, Addr.mk.injEq, and_true] at he
              obtain ⟨rfl, rfl⟩ := he
              have h5 := tus_drop (k := q.length) hf
              rw [List.drop_append_of_le_length (by rw [List.length_reverse]; exact Nat.le_refl _), List.drop_of_length_le (by rw [List.length_reverse]; exact Nat.le_refl _), List.nil_append] at h5
              exact tus_flat (.inr ⟨gO, q.length * 4, rfl, fun k t hk => by have := h5 k t hk; rwa [Nat.zero_add] at this⟩) _ rfl j u hj)
          clear hk2 hMM hTM hT1
          cases q with
          | nil =>
            have HEND := Lib.hid (show (rs (l.take (i + 1))).reverse = ⟨f, cc, aa, nn⟩ :: p.reverse by
              rw [rs_next HP.out, hE.out, ins_at hA.out (by simp)]; simp)
            dsimp only [List.length_nil, List.reverse_nil, Nat.zero_mul] at HNW HND HPL HQL ⊢
            go_wp2_with fail
            go_big_region
            all_goals
              go_wp2_with fail
              have FX := Lib.hid (show Tu4 wr b0 (of + i * 4) ⟨f, cc, aa, nn⟩ from ⟨X0, X1, X2, X3⟩)
              have HML := Lib.hid (show n ≤ 20 from HN.out.2)
              have gC : G wr wr.drew := by (repeat' (first | (with_reducible exact G.refl _) | (with_reducible refine G.drewN ?_ _) | (with_reducible refine G.drew ?_) | (with_reducible refine G.alloc ?_ _)))
              refine wp_region_held_drew (S := fun w' => w'.cell? ⟨b0, of + i * 4, none⟩ = some (.int .i64 f) ∧ w'.cell? ⟨b0, of + i * 4 + 1, none⟩ = some (.int .i64 cc) ∧ w'.cell? ⟨b0, of + i * 4 + 2, none⟩ = some (.int .i64 aa) ∧ w'.cell? ⟨b0, of + i * 4 + 3, none⟩ = some (.int .i64 nn)) (by kernel_rfl) (by ((try dsimp only); first | (with_reducible assumption) | ((repeat' (with_reducible apply And.intro)) <;> go_simp))) (fun hH0 => ?_)
              refine wpAnyH_take (i := 1) (oi := { dst := some 32, op := Go.Op.move (Go.Operand.tmp 3), type := 27, pos := "ref.go:72", after := #[], guard := none }) (v := ?_) rfl (by kernel_rfl) (by kernel_rfl) (by kernel_rfl) (fun _ _ _ h => h) (Or.inl ⟨by rfl, ?_⟩) (by assumption) ?_
              rotate_left
              · (intro w hSw; (try dsimp only at hSw); go_simp) <;> (with_reducible rfl)
              simp only [Act.put, List.setIfInBounds_toArray, List.set_cons_zero, List.set_cons_succ]
              refine wpAnyH_take (i := 2) (oi := { dst := some 33, op := Go.Op.move (Go.Operand.tmp 5), type := 3, pos := "ref.go:72", after := #[], guard := none }) (v := ?_) rfl (by kernel_rfl) (by kernel_rfl) (by kernel_rfl) (fun _ _ _ h => h) (Or.inl ⟨by rfl, ?_⟩) (by assumption) ?_
              rotate_left
              · (intro w hSw; (try dsimp only at hSw); go_simp) <;> (with_reducible rfl)
              simp only [Act.put, List.setIfInBounds_toArray, List.set_cons_zero, List.set_cons_succ]
              refine wpAnyH_take (i := 3) (oi := { dst := some 34, op := Go.Op.slice 27 (Go.Operand.tmp 32) none (some (Go.Operand.tmp 33)) none, type := 27, pos := "ref.go:72", after := #[{ on := 1, ground := Go.Ground.data }, { on := 2, ground := Go.Ground.data }], guard := none }) (v := ?_) rfl (by kernel_rfl) (by kernel_rfl) (by kernel_rfl) (fun _ _ _ h => h) (Or.inl ⟨by rfl, ?_⟩) (by assumption) ?_
              rotate_left
              · (intro w hSw; (try dsimp only at hSw); go_simp) <;> (with_reducible rfl)
              simp only [Act.put, List.setIfInBounds_toArray, List.set_cons_zero, List.set_cons_succ]
              refine wpAnyH_take (i := 5) (oi := { dst := some 36, op := Go.Op.move (Go.Operand.tmp 0), type := 27, pos := "ref.go:72", after := #[], guard := none }) (v := ?_) rfl (by kernel_rfl) (by kernel_rfl) (by kernel_rfl) (fun _ _ _ h => h) (Or.inl ⟨by rfl, ?_⟩) (by assumption) ?_
              rotate_left
              · (intro w hSw; (try dsimp only at hSw); go_simp) <;> (with_reducible rfl)
              simp only [Act.put, List.setIfInBounds_toArray, List.set_cons_zero, List.set_cons_succ]
              refine wpAnyH_take (i := 6) (oi := { dst := some 37, op := Go.Op.move (Go.Operand.tmp 4), type := 3, pos := "ref.go:72", after := #[], guard := none }) (v := ?_) rfl (by kernel_rfl) (by kernel_rfl) (by kernel_rfl) (fun _ _ _ h => h) (Or.inl ⟨by rfl, ?_⟩) (by assumption) ?_
              rotate_left
              · (intro w hSw; (try dsimp only at hSw); go_simp) <;> (with_reducible rfl)
              simp only [Act.put, List.setIfInBounds_toArray, List.set_cons_zero, List.set_cons_succ]
              refine wpAnyH_take (i := 7) (oi := { dst := some 38, op := Go.Op.indexAddr 27 (Go.Operand.tmp 36) (Go.Operand.tmp 37), type := 0, pos := "ref.go:72", after := #[{ on := 5, ground := Go.Ground.data }, { on := 6, ground := Go.Ground.data }], guard := none }) (v := ?_) rfl (by kernel_rfl) (by kernel_rfl) (by kernel_rfl) (fun _ _ _ h => h) (Or.inl ⟨by rfl, ?_⟩) (by assumption) ?_
              rotate_left
              · (intro w hSw; (try dsimp only at hSw); go_simp) <;> (with_reducible rfl)
              simp only [Act.put, List.setIfInBounds_toArray, List.set_cons_zero, List.set_cons_succ]
              refine wpAnyH_take (i := 8) (oi := { dst := some 39, op := Go.Op.load 39 (Go.Operand.tmp 38), type := 39, pos := "ref.go:72", after := #[{ on := 7, ground := Go.Ground.data }], guard := none }) (v := ?_) rfl (by kernel_rfl) (by kernel_rfl) (by kernel_rfl) (fun _ _ _ h => h) (Or.inl ⟨by rfl, ?_⟩) (by assumption) ?_
              rotate_left
              · (intro w hSw; (try dsimp only at hSw); go_simp) <;> (with_reducible rfl)
              simp only [Act.put, List.setIfInBounds_toArray, List.set_cons_zero, List.set_cons_succ]
              refine wpAnyH_ready (rs := [0, 9]) (by kernel_rfl) (by simp) ?_
              refine (AllReadyH.cons (o := { dst := some 31, op := Go.Op.buildSlice 27 0 #[], type := 27, pos := "ref.go:72", after := #[], guard := none }) rfl (fun Kc hKc => ?_) (AllReadyH.cons (o := { dst := some 40, op := Go.Op.buildSlice 27 1 #[(0, Go.Operand.tmp 39)], type := 27, pos := "ref.go:72", after := #[{ on := 8, ground := Go.Ground.data }], guard := none }) rfl (fun Kc hKc => ?_) AllReadyH.nil))
              · go_simp
                have gN : G wr ((wr.alloc (.cells #[] 39)).drew.drew) := (show G wr wr by first | with_reducible exact gC | exact G.refl _).trans (by (repeat' (first | (with_reducible exact G.refl _) | (with_reducible refine G.drewN ?_ _) | (with_reducible refine G.drew ?_) | (with_reducible refine G.alloc ?_ _))))
                have gS : G wr ((wr.alloc (.cells #[] 39)).drew.drew) := by (repeat' (first | (with_reducible exact G.refl _) | (with_reducible refine G.drewN ?_ _) | (with_reducible refine G.drew ?_) | (with_reducible refine G.alloc ?_ _)))
                have HE' := Lib.hid (own_later (row_new wr wr.heap.size (by simp) 39 4) (show G _ ((wr.alloc (.cells #[] 39)).drew.drew) by (repeat' (first | (with_reducible exact G.refl _) | (with_reducible refine G.drewN ?_ _) | (with_reducible refine G.drew ?_) | (with_reducible refine G.alloc ?_ _)))))
                obtain ⟨y0, y1, y2, y3⟩ := FX.out.later gN
                dsimp only at y0 y1 y2 y3
                refine hKc.out _ _ (by ((try dsimp only); first | (with_reducible assumption) | ((repeat' (with_reducible apply And.intro)) <;> go_simp))) (fun hH1 => ?_)
                clear hKc Kc hH0
                clear y0 y1 y2 y3 gS
                have HBL := Lib.hid (show wr.heap.size < ((wr.alloc (.cells #[] 39)).drew.drew).heap.size by simp)
                obtain ⟨W1, hW1⟩ : ∃ z : World, Hid ((wr.alloc (.cells #[] 39)).drew.drew = z) := ⟨_, rfl⟩
                rw [hW1.out] at gN HBL HE' ⊢
                obtain ⟨BE, hBE⟩ : ∃ z : Nat, Hid (wr.heap.size = z) := ⟨_, rfl⟩
                rw [hBE.out] at HBL HE' ⊢
                have HBG := Lib.hid (show wr.heap.size ≤ BE by rw [← hBE.out]; exact (show G wr wr by first | with_reducible exact gC | exact G.refl _).size)
                clear gC
                have gC := gN
                clear gN
                have HE := HE'
                clear HE'
                have HBE := HBL
                have HBEG := HBG
                clear HBL HBG
                refine wpAnyH_ready (rs := [4, 9]) (by kernel_rfl) (by simp) ?_
                refine (AllReadyH.cons (o := { dst := some 35, op := Go.Op.call { callee := Go.Callee.builtin Go.Builtin.append, args := #[Go.Operand.tmp 31, Go.Operand.tmp 34], argTypes := #[27, 27] }, type := 27, pos := "ref.go:72", after := #[{ on := 0, ground := Go.Ground.data }, { on := 3, ground := Go.Ground.data }], guard := none }) rfl (fun Kc hKc => ?_) (AllReadyH.cons (o := { dst := some 40, op := Go.Op.buildSlice 27 1 #[(0, Go.Operand.tmp 39)], type := 27, pos := "ref.go:72", after := #[{ on := 8, ground := Go.Ground.data }], guard := none }) rfl (fun Kc hKc => ?_) AllReadyH.nil))
                · refine step_append_any rfl _ _ 27 rfl wr.heap.size 39 i0 (.agg #[.int .i64 0, .int .i64 0, .int .i64 0, .int .i64 0]) 4 32 Try.underlying27 hi0 hz0 hz1 hz2 rfl (by decide) BE 0 0 [] rfl (own_base (own_later HE.out (by (repeat' (first | (with_reducible exact G.refl _) | (with_reducible refine G.drewN ?_ _) | (with_reducible refine G.drew ?_) | (with_reducible refine G.alloc ?_ _))))) HBEG.out) (some ⟨gO, 0, none⟩) 0 cO ((([] : List Tu).reverse).flatMap tuE) rfl (fun h => by cases h) (by rw [flat_len tuE 4 tuE_len, List.length_reverse]; first | done | rfl) (fun ad ha => by obtain rfl := Option.some.inj ha; exact later_news (gr2.trans (gC.trans (by (repeat' (first | (with_reducible exact G.refl _) | (with_reducible refine G.drewN ?_ _) | (with_reducible refine G.drew ?_) | (with_reducible refine G.alloc ?_ _)))))) HNW.out) (flat_one _) (by unfold maxLen; have := HML.out; omega) (by have := HML.out; omega) (by have := gC.size; simp [go_sem]; try omega) ?_
                  intro g8 c8 w8 hown8 hgrow8
                  simp only [Nat.zero_add] at hown8
                  try simp only [Nat.zero_add]
                  have gN : G wr w8 := Below.grown (B := wr.heap.size) (show G wr _ from gC.trans (by (repeat' (first | (with_reducible exact G.refl _) | (with_reducible refine G.drewN ?_ _) | (with_reducible refine G.drew ?_) | (with_reducible refine G.alloc ?_ _))))) hgrow8 (by have := gC.size; simp [go_sem]; try omega) (fun k hk => by obtain rfl := Option.some.inj hk; exact HBEG.out)
                  obtain ⟨y0, y1, y2, y3⟩ := FX.out.later gN
                  dsimp only at y0 y1 y2 y3
                  refine hKc.out _ _ (by ((try dsimp only); first | (with_reducible assumption) | ((repeat' (with_reducible apply And.intro)) <;> go_simp))) (fun hH2 => ?_)
                  clear hKc Kc hH1
                  clear y0 y1 y2 y3
                  have H8 := Lib.hid hown8
                  have B8 := Lib.hid (own_ge hown8)
                  clear hown8 hgrow8 gC HE
                  have gC := gN
                  clear gN
                  refine wpAnyH_ready (rs := [9]) (by kernel_rfl) (by simp) ?_
                  refine (AllReadyH.cons (o := { dst := some 40, op := Go.Op.buildSlice 27 1 #[(0, Go.Operand.tmp 39)], type := 27, pos := "ref.go:72", after := #[{ on := 8, ground := Go.Ground.data }], guard := none }) rfl (fun Kc hKc => ?_) AllReadyH.nil)
                  go_simp
                  have gN : G wr ((w8.alloc (.cells #[.int .i64 f, .int .i64 cc, .int .i64 aa, .int .i64 nn] 39))) := (show G wr w8 by first | with_reducible exact gC | exact G.refl _).trans (by (repeat' (first | (with_reducible exact G.refl _) | (with_reducible refine G.drewN ?_ _) | (with_reducible refine G.drew ?_) | (with_reducible refine G.alloc ?_ _))))
                  have gS : G w8 ((w8.alloc (.cells #[.int .i64 f, .int .i64 cc, .int .i64 aa, .int .i64 nn] 39))) := by (repeat' (first | (with_reducible exact G.refl _) | (with_reducible refine G.drewN ?_ _) | (with_reducible refine G.drew ?_) | (with_reducible refine G.alloc ?_ _)))
                  have HX' := Lib.hid (show (∀ j u, ([.int .i64 f, .int .i64 cc, .int .i64 aa, .int .i64 nn] : List Value)[j]? = some u → ((w8.alloc (.cells #[.int .i64 f, .int .i64 cc, .int .i64 aa, .int .i64 nn] 39))).cell? ((⟨w8.heap.size, 0, none⟩ : Addr).add j) = some u) ∧ w8.heap.size < ((w8.alloc (.cells #[.int .i64 f, .int .i64 cc, .int .i64 aa, .int .i64 nn] 39))).heap.size from ⟨later_news (show G (w8.alloc (.cells #[.int .i64 f, .int .i64 cc, .int .i64 aa, .int .i64 nn] 39)) ((w8.alloc (.cells #[.int .i64 f, .int .i64 cc, .int .i64 aa, .int .i64 nn] 39))) by (repeat' (first | (with_reducible exact G.refl _) | (with_reducible refine G.drewN ?_ _) | (with_reducible refine G.drew ?_) | (with_reducible refine G.alloc ?_ _)))) (new_add _ _ [.int .i64 f, .int .i64 cc, .int .i64 aa, .int .i64 nn] 39 (by simp)), by simp⟩)
                  have H8' := Lib.hid (own_later H8.out gS)
                  obtain ⟨y0, y1, y2, y3⟩ := FX.out.later gN
                  dsimp only at y0 y1 y2 y3
                  refine hKc.out _ _ (by ((try dsimp only); first | (with_reducible assumption) | ((repeat' (with_reducible apply And.intro)) <;> go_simp))) (fun hH3 => ?_)
                  clear hKc Kc hH2
                  clear y0 y1 y2 y3 gS
                  have HBL := Lib.hid (show w8.heap.size < ((w8.alloc (.cells #[.int .i64 f, .int .i64 cc, .int .i64 aa, .int .i64 nn] 39))).heap.size by simp)
                  obtain ⟨W2, hW2⟩ : ∃ z : World, Hid ((w8.alloc (.cells #[.int .i64 f, .int .i64 cc, .int .i64 aa, .int .i64 nn] 39)) = z) := ⟨_, rfl⟩
                  rw [hW2.out] at gN HBL HX' H8' ⊢
                  obtain ⟨BX, hBX⟩ : ∃ z : Nat, Hid (w8.heap.size = z) := ⟨_, rfl⟩
                  rw [hBX.out] at HBL HX' ⊢
                  have HBG := Lib.hid (show wr.heap.size ≤ BX by rw [← hBX.out]; exact (show G wr w8 by first | with_reducible exact gC | exact G.refl _).size)
                  clear gC
                  have gC := gN
                  clear gN
                  have HX := HX'
                  clear HX'
                  clear H8
                  have H8 := H8'
                  clear H8'
                  clear HBL HBG
                  refine wpAnyH_ready (rs := [10]) (by kernel_rfl) (by simp) ?_
                  refine (AllReadyH.cons (o := { dst := some 41, op := Go.Op.call { callee := Go.Callee.builtin Go.Builtin.append, args := #[Go.Operand.tmp 35, Go.Operand.tmp 40], argTypes := #[27, 27] }, type := 27, pos := "ref.go:72", after := #[{ on := 4, ground := Go.Ground.data }, { on := 9, ground := Go.Ground.data }, { on := 4, ground := Go.Ground.chain }], guard := none }) rfl (fun Kc hKc => ?_) AllReadyH.nil)
                  refine step_append_any rfl _ _ 27 rfl wr.heap.size 39 i0 (.agg #[.int .i64 0, .int .i64 0, .int .i64 0, .int .i64 0]) 4 32 Try.underlying27 hi0 hz0 hz1 hz2 rfl (by decide) g8 0 c8 ([] ++ (([] : List Tu).reverse).flatMap tuE) rfl (own_later H8.out (by (repeat' (first | (with_reducible exact G.refl _) | (with_reducible refine G.drewN ?_ _) | (with_reducible refine G.drew ?_) | (with_reducible refine G.alloc ?_ _))))) (some _) 1 1 [.int .i64 f, .int .i64 cc, .int .i64 aa, .int .i64 nn] rfl (fun h => by cases h) rfl (fun ad ha => by obtain rfl := Option.some.inj ha; exact later_news (by (repeat' (first | (with_reducible exact G.refl _) | (with_reducible refine G.drewN ?_ _) | (with_reducible refine G.drew ?_) | (with_reducible refine G.alloc ?_ _)))) HX.out.1) (flat_one [⟨f, cc, aa, nn⟩]) (by unfold maxLen; have := HML.out; omega) (by have := HML.out; omega) (by have := gC.size; simp [go_sem]; try omega) ?_
                  intro g9 c9 w9 hown9 hgrow9
                  have gN : G wr w9 := Below.grown (B := wr.heap.size) (show G wr _ from gC.trans (by (repeat' (first | (with_reducible exact G.refl _) | (with_reducible refine G.drewN ?_ _) | (with_reducible refine G.drew ?_) | (with_reducible refine G.alloc ?_ _))))) hgrow9 (by have := gC.size; simp [go_sem]; try omega) (fun k hk => by obtain rfl := Option.some.inj hk; exact B8.out)
                  obtain ⟨y0, y1, y2, y3⟩ := FX.out.later gN
                  dsimp only at y0 y1 y2 y3
                  refine hKc.out _ _ (by ((try dsimp only); first | (with_reducible assumption) | ((repeat' (with_reducible apply And.intro)) <;> go_simp))) (fun hH4 => ?_)
                  clear hKc Kc hH3
                  clear y0 y1 y2 y3
                  have H9 := Lib.hid hown9
                  have B9 := Lib.hid (own_ge hown9)
                  clear hown9 hgrow9 gC H8 HX
                  have gN9 := gN
                  clear gN
                  refine wpAnyH_take (i := 11) (oi := { dst := some 6, op := Go.Op.assign (Go.Operand.tmp 41), type := 27, pos := "ref.go:72", after := #[{ on := 10, ground := Go.Ground.data }, { on := 10, ground := Go.Ground.chain }, { on := 0, ground := Go.Ground.phase }, { on := 1, ground := Go.Ground.phase }, { on := 2, ground := Go.Ground.phase }, { on := 3, ground := Go.Ground.phase }, { on := 4, ground := Go.Ground.phase }, { on := 5, ground := Go.Ground.phase }, { on := 6, ground := Go.Ground.phase }, { on := 7, ground := Go.Ground.phase }, { on := 8, ground := Go.Ground.phase }, { on := 9, ground := Go.Ground.phase }, { on := 10, ground := Go.Ground.phase }], guard := none }) (v := ?_) rfl (by kernel_rfl) (by kernel_rfl) (by kernel_rfl) (fun _ _ _ h => h) (Or.inl ⟨by rfl, ?_⟩) (by assumption) ?_
                  rotate_left
                  · (intro w hSw; (try dsimp only at hSw); go_simp) <;> (with_reducible rfl)
                  simp only [Act.put, List.setIfInBounds_toArray, List.set_cons_zero, List.set_cons_succ]
                  refine wpAnyH_done (by kernel_rfl) ?_ _
                  go_wp2_with (at_builtin; refine append_all rfl _ _ 27 rfl wr.heap.size 39 i0 (.agg #[.int .i64 0, .int .i64 0, .int .i64 0, .int .i64 0]) 4 32 Try.underlying27 hi0 hz0 hz1 hz2 rfl (by decide) (.slice (some ⟨g9, 0, none⟩) (0 + 1) c9) (0 + 1) _ rfl (own_later H9.out (by (repeat' (first | (with_reducible exact G.refl _) | (with_reducible refine G.drewN ?_ _) | (with_reducible refine G.drew ?_) | (with_reducible refine G.alloc ?_ _))))) (some ⟨gO, 0 * 4, none⟩) (i - 0) (cO - 0) (p.reverse.flatMap tuE) rfl (fun h => by cases h) (by rw [flat_len tuE 4 tuE_len, List.length_reverse]; have := HPL.out; omega) (fun ad ha => by obtain rfl := Option.some.inj ha; exact later_news (gr2.trans (gN9.trans (by (repeat' (first | (with_reducible exact G.refl _) | (with_reducible refine G.drewN ?_ _) | (with_reducible refine G.drew ?_) | (with_reducible refine G.alloc ?_ _)))))) HND.out) (flat_one _) (by unfold maxLen; have := HML.out; omega) (by have := HML.out; omega) (by have := gN9.size; simp [go_sem]; try omega) ?_; intro v' w10 hown10 hgrow10 _)
                  all_goals
                    have gN10 : G wr w10 := Below.grown (B := wr.heap.size) (gN9.trans (show G w9 _ by (repeat' (first | (with_reducible exact G.refl _) | (with_reducible assumption) | (with_reducible refine G.drewN ?_ _) | (with_reducible refine G.drew ?_) | (with_reducible refine G.alloc ?_ _) | (with_reducible refine G.setCell ?_ (by first | (with_reducible exact Nat.le_refl _) | (simp; done) | (simp; omega) | omega) _) | (with_reducible refine G.trans ?_ (by assumption)))))) hgrow10 (by have := gN9.size; simp [go_sem]; try omega) (fun k hk => by have : g9 = k := (by simpa [Value.ownBlock] using hk); have := B9.out; omega)
                    have RN := Lib.hid (row_of (M := (rs (l.take (i + 1))).reverse) hown10 (by rw [HEND.out, List.length_cons, List.length_reverse]; have := HPL.out; have := HQL.out; have := HIL.out; omega) (by rw [HEND.out]; simp [tuE]))
                    go_roundg (n - (i + 1))
                    case measure => have := HK.out; have := HI.out; omega
                    case rel => exact ⟨i + 1, v', rfl, by first | rfl | go_num, rfl, by have := HI.out; omega, Lib.hid (own_base RN.out HG2.out), gwr.trans gN10⟩
                · go_simp
                  have gN : G wr ((W1.alloc (.cells #[.int .i64 f, .int .i64 cc, .int .i64 aa, .int .i64 nn] 39))) := (show G wr W1 by first | with_reducible exact gC | exact G.refl _).trans (by (repeat' (first | (with_reducible exact G.refl _) | (with_reducible refine G.drewN ?_ _) | (with_reducible refine G.drew ?_) | (with_reducible refine G.alloc ?_ _))))
                  have gS : G W1 ((W1.alloc (.cells #[.int .i64 f, .int .i64 cc, .int .i64 aa, .int .i64 nn] 39))) := by (repeat' (first | (with_reducible exact G.refl _) | (with_reducible refine G.drewN ?_ _) | (with_reducible refine G.drew ?_) | (with_reducible refine G.alloc ?_ _)))
                  have HX' := Lib.hid (show (∀ j u, ([.int .i64 f, .int .i64 cc, .int .i64 aa, .int .i64 nn] : List Value)[j]? = some u → ((W1.alloc (.cells #[.int .i64 f, .int .i64 cc, .int .i64 aa, .int .i64 nn] 39))).cell? ((⟨W1.heap.size, 0, none⟩ : Addr).add j) = some u) ∧ W1.heap.size < ((W1.alloc (.cells #[.int .i64 f, .int .i64 cc, .int .i64 aa, .int .i64 nn] 39))).heap.size from ⟨later_news (show G (W1.alloc (.cells #[.int .i64 f, .int .i64 cc, .int .i64 aa, .int .i64 nn] 39)) ((W1.alloc (.cells #[.int .i64 f, .int .i64 cc, .int .i64 aa, .int .i64 nn] 39))) by (repeat' (first | (with_reducible exact G.refl _) | (with_reducible refine G.drewN ?_ _) | (with_reducible refine G.drew ?_) | (with_reducible refine G.alloc ?_ _)))) (new_add _ _ [.int .i64 f, .int .i64 cc, .int .i64 aa, .int .i64 nn] 39 (by simp)), by simp⟩)
                  have HE' := Lib.hid (own_later HE.out gS)
                  have HNE' := Lib.hid (show W1.heap.size ≠ BE by have := HBE.out; omega)
                  obtain ⟨y0, y1, y2, y3⟩ := FX.out.later gN
                  dsimp only at y0 y1 y2 y3
                  refine hKc.out _ _ (by ((try dsimp only); first | (with_reducible assumption) | ((repeat' (with_reducible apply And.intro)) <;> go_simp))) (fun hH5 => ?_)
                  clear hKc Kc hH1
                  clear y0 y1 y2 y3 gS
                  have HBL := Lib.hid (show W1.heap.size < ((W1.alloc (.cells #[.int .i64 f, .int .i64 cc, .int .i64 aa, .int .i64 nn] 39))).heap.size by simp)
                  obtain ⟨W2, hW2⟩ : ∃ z : World, Hid ((W1.alloc (.cells #[.int .i64 f, .int .i64 cc, .int .i64 aa, .int .i64 nn] 39)) = z) := ⟨_, rfl⟩
                  rw [hW2.out] at gN HBL HE' HX' ⊢
                  obtain ⟨BX, hBX⟩ : ∃ z : Nat, Hid (W1.heap.size = z) := ⟨_, rfl⟩
                  rw [hBX.out] at HBL HX' HNE' ⊢
                  have HBG := Lib.hid (show wr.heap.size ≤ BX by rw [← hBX.out]; exact (show G wr W1 by first | with_reducible exact gC | exact G.refl _).size)
                  clear gC
                  have gC := gN
                  clear gN
                  clear HE
                  have HE := HE'
                  clear HE'
                  have HX := HX'
                  clear HX'
                  have HNE := HNE'
                  clear HNE'
                  clear HBL HBG
                  refine wpAnyH_ready (rs := [4]) (by kernel_rfl) (by simp) ?_
                  refine (AllReadyH.cons (o := { dst := some 35, op := Go.Op.call { callee := Go.Callee.builtin Go.Builtin.append, args := #[Go.Operand.tmp 31, Go.Operand.tmp 34], argTypes := #[27, 27] }, type := 27, pos := "ref.go:72", after := #[{ on := 0, ground := Go.Ground.data }, { on := 3, ground := Go.Ground.data }], guard := none }) rfl (fun Kc hKc => ?_) AllReadyH.nil)
                  refine step_append_any rfl _ _ 27 rfl wr.heap.size 39 i0 (.agg #[.int .i64 0, .int .i64 0, .int .i64 0, .int .i64 0]) 4 32 Try.underlying27 hi0 hz0 hz1 hz2 rfl (by decide) BE 0 0 [] rfl (own_base (own_later HE.out (by (repeat' (first | (with_reducible exact G.refl _) | (with_reducible refine G.drewN ?_ _) | (with_reducible refine G.drew ?_) | (with_reducible refine G.alloc ?_ _))))) HBEG.out) (some ⟨gO, 0, none⟩) 0 cO ((([] : List Tu).reverse).flatMap tuE) rfl (fun h => by cases h) (by rw [flat_len tuE 4 tuE_len, List.length_reverse]; first | done | rfl) (fun ad ha => by obtain rfl := Option.some.inj ha; exact later_news (gr2.trans (gC.trans (by (repeat' (first | (with_reducible exact G.refl _) | (with_reducible refine G.drewN ?_ _) | (with_reducible refine G.drew ?_) | (with_reducible refine G.alloc ?_ _)))))) HNW.out) (flat_one _) (by unfold maxLen; have := HML.out; omega) (by have := HML.out; omega) (by have := gC.size; simp [go_sem]; try omega) ?_
                  intro g8 c8 w8 hown8 hgrow8
                  simp only [Nat.zero_add] at hown8
                  try simp only [Nat.zero_add]
                  have gN : G wr w8 := Below.grown (B := wr.heap.size) (show G wr _ from gC.trans (by (repeat' (first | (with_reducible exact G.refl _) | (with_reducible refine G.drewN ?_ _) | (with_reducible refine G.drew ?_) | (with_reducible refine G.alloc ?_ _))))) hgrow8 (by have := gC.size; simp [go_sem]; try omega) (fun k hk => by obtain rfl := Option.some.inj hk; exact HBEG.out)
                  have HX' := Lib.hid (show (∀ j u, ([.int .i64 f, .int .i64 cc, .int .i64 aa, .int .i64 nn] : List Value)[j]? = some u → w8.cell? ((⟨BX, 0, none⟩ : Addr).add j) = some u) ∧ BX < w8.heap.size from ⟨keep_news hgrow8 (by have := HX.out.2; simp [go_sem]; try omega) (by simp only [ne_eq, Option.some.injEq]; exact HNE.out) (later_news (by (repeat' (first | (with_reducible exact G.refl _) | (with_reducible refine G.drewN ?_ _) | (with_reducible refine G.drew ?_) | (with_reducible refine G.alloc ?_ _)))) HX.out.1), Nat.lt_of_lt_of_le (by have := HX.out.2; simp [go_sem]; try omega) hgrow8.size⟩)
                  clear HX
                  have HX := HX'
                  clear HX'
                  obtain ⟨y0, y1, y2, y3⟩ := FX.out.later gN
                  dsimp only at y0 y1 y2 y3
                  refine hKc.out _ _ (by ((try dsimp only); first | (with_reducible assumption) | ((repeat' (with_reducible apply And.intro)) <;> go_simp))) (fun hH6 => ?_)
                  clear hKc Kc hH5
                  clear y0 y1 y2 y3
                  have H8 := Lib.hid hown8
                  have B8 := Lib.hid (own_ge hown8)
                  clear hown8 hgrow8 gC HE
                  have gC := gN
                  clear gN
                  refine wpAnyH_ready (rs := [10]) (by kernel_rfl) (by simp) ?_
                  refine (AllReadyH.cons (o := { dst := some 41, op := Go.Op.call { callee := Go.Callee.builtin Go.Builtin.append, args := #[Go.Operand.tmp 35, Go.Operand.tmp 40], argTypes := #[27, 27] }, type := 27, pos := "ref.go:72", after := #[{ on := 4, ground := Go.Ground.data }, { on := 9, ground := Go.Ground.data }, { on := 4, ground := Go.Ground.chain }], guard := none }) rfl (fun Kc hKc => ?_) AllReadyH.nil)
                  refine step_append_any rfl _ _ 27 rfl wr.heap.size 39 i0 (.agg #[.int .i64 0, .int .i64 0, .int .i64 0, .int .i64 0]) 4 32 Try.underlying27 hi0 hz0 hz1 hz2 rfl (by decide) g8 0 c8 ([] ++ (([] : List Tu).reverse).flatMap tuE) rfl (own_later H8.out (by (repeat' (first | (with_reducible exact G.refl _) | (with_reducible refine G.drewN ?_ _) | (with_reducible refine G.drew ?_) | (with_reducible refine G.alloc ?_ _))))) (some _) 1 1 [.int .i64 f, .int .i64 cc, .int .i64 aa, .int .i64 nn] rfl (fun h => by cases h) rfl (fun ad ha => by obtain rfl := Option.some.inj ha; exact later_news (by (repeat' (first | (with_reducible exact G.refl _) | (with_reducible refine G.drewN ?_ _) | (with_reducible refine G.drew ?_) | (with_reducible refine G.alloc ?_ _)))) HX.out.1) (flat_one [⟨f, cc, aa, nn⟩]) (by unfold maxLen; have := HML.out; omega) (by have := HML.out; omega) (by have := gC.size; simp [go_sem]; try omega) ?_
                  intro g9 c9 w9 hown9 hgrow9
                  have gN : G wr w9 := Below.grown (B := wr.heap.size) (show G wr _ from gC.trans (by (repeat' (first | (with_reducible exact G.refl _) | (with_reducible refine G.drewN ?_ _) | (with_reducible refine G.drew ?_) | (with_reducible refine G.alloc ?_ _))))) hgrow9 (by have := gC.size; simp [go_sem]; try omega) (fun k hk => by obtain rfl := Option.some.inj hk; exact B8.out)
                  obtain ⟨y0, y1, y2, y3⟩ := FX.out.later gN
                  dsimp only at y0 y1 y2 y3
                  refine hKc.out _ _ (by ((try dsimp only); first | (with_reducible assumption) | ((repeat' (with_reducible apply And.intro)) <;> go_simp))) (fun hH7 => ?_)
                  clear hKc Kc hH6
                  clear y0 y1 y2 y3
                  have H9 := Lib.hid hown9
                  have B9 := Lib.hid (own_ge hown9)
                  clear hown9 hgrow9 gC H8 HX
                  have gN9 := gN
                  clear gN
                  refine wpAnyH_take (i := 11) (oi := { dst := some 6, op := Go.Op.assign (Go.Operand.tmp 41), type := 27, pos := "ref.go:72", after := #[{ on := 10, ground := Go.Ground.data }, { on := 10, ground := Go.Ground.chain }, { on := 0, ground := Go.Ground.phase }, { on := 1, ground := Go.Ground.phase }, { on := 2, ground := Go.Ground.phase }, { on := 3, ground := Go.Ground.phase }, { on := 4, ground := Go.Ground.phase }, { on := 5, ground := Go.Ground.phase }, { on := 6, ground := Go.Ground.phase }, { on := 7, ground := Go.Ground.phase }, { on := 8, ground := Go.Ground.phase }, { on := 9, ground := Go.Ground.phase }, { on := 10, ground := Go.Ground.phase }], guard := none }) (v := ?_) rfl (by kernel_rfl) (by kernel_rfl) (by kernel_rfl) (fun _ _ _ h => h) (Or.inl ⟨by rfl, ?_⟩) (by assumption) ?_
                  rotate_left
                  · (intro w hSw; (try dsimp only at hSw); go_simp) <;> (with_reducible rfl)
                  simp only [Act.put, List.setIfInBounds_toArray, List.set_cons_zero, List.set_cons_succ]
                  refine wpAnyH_done (by kernel_rfl) ?_ _
                  go_wp2_with (at_builtin; refine append_all rfl _ _ 27 rfl wr.heap.size 39 i0 (.agg #[.int .i64 0, .int .i64 0, .int .i64 0, .int .i64 0]) 4 32 Try.underlying27 hi0 hz0 hz1 hz2 rfl (by decide) (.slice (some ⟨g9, 0, none⟩) (0 + 1) c9) (0 + 1) _ rfl (own_later H9.out (by (repeat' (first | (with_reducible exact G.refl _) | (with_reducible refine G.drewN ?_ _) | (with_reducible refine G.drew ?_) | (with_reducible refine G.alloc ?_ _))))) (some ⟨gO, 0 * 4, none⟩) (i - 0) (cO - 0) (p.reverse.flatMap tuE) rfl (fun h => by cases h) (by rw [flat_len tuE 4 tuE_len, List.length_reverse]; have := HPL.out; omega) (fun ad ha => by obtain rfl := Option.some.inj ha; exact later_news (gr2.trans (gN9.trans (by (repeat' (first | (with_reducible exact G.refl _) | (with_reducible refine G.drewN ?_ _) | (with_reducible refine G.drew ?_) | (with_reducible refine G.alloc ?_ _)))))) HND.out) (flat_one _) (by unfold maxLen; have := HML.out; omega) (by have := HML.out; omega) (by have := gN9.size; simp [go_sem]; try omega) ?_; intro v' w10 hown10 hgrow10 _)
                  all_goals
                    have gN10 : G wr w10 := Below.grown (B := wr.heap.size) (gN9.trans (show G w9 _ by (repeat' (first | (with_reducible exact G.refl _) | (with_reducible assumption) | (with_reducible refine G.drewN ?_ _) | (with_reducible refine G.drew ?_) | (with_reducible refine G.alloc ?_ _) | (with_reducible refine G.setCell ?_ (by first | (with_reducible exact Nat.le_refl _) | (simp; done) | (simp; omega) | omega) _) | (with_reducible refine G.trans ?_ (by assumption)))))) hgrow10 (by have := gN9.size; simp [go_sem]; try omega) (fun k hk => by have : g9 = k := (by simpa [Value.ownBlock] using hk); have := B9.out; omega)
                    have RN := Lib.hid (row_of (M := (rs (l.take (i + 1))).reverse) hown10 (by rw [HEND.out, List.length_cons, List.length_reverse]; have := HPL.out; have := HQL.out; have := HIL.out; omega) (by rw [HEND.out]; simp [tuE]))
                    go_roundg (n - (i + 1))
                    case measure => have := HK.out; have := HI.out; omega
                    case rel => exact ⟨i + 1, v', rfl, by first | rfl | go_num, rfl, by have := HI.out; omega, Lib.hid (own_base RN.out HG2.out), gwr.trans gN10⟩
              · go_simp
                have gN : G wr ((wr.alloc (.cells #[.int .i64 f, .int .i64 cc, .int .i64 aa, .int .i64 nn] 39)).drew.drew) := (show G wr wr by first | with_reducible exact gC | exact G.refl _).trans (by (repeat' (first | (with_reducible exact G.refl _) | (with_reducible refine G.drewN ?_ _) | (with_reducible refine G.drew ?_) | (with_reducible refine G.alloc ?_ _))))
                have gS : G wr ((wr.alloc (.cells #[.int .i64 f, .int .i64 cc, .int .i64 aa, .int .i64 nn] 39)).drew.drew) := by (repeat' (first | (with_reducible exact G.refl _) | (with_reducible refine G.drewN ?_ _) | (with_reducible refine G.drew ?_) | (with_reducible refine G.alloc ?_ _)))
                have HX' := Lib.hid (show (∀ j u, ([.int .i64 f, .int .i64 cc, .int .i64 aa, .int .i64 nn] : List Value)[j]? = some u → ((wr.alloc (.cells #[.int .i64 f, .int .i64 cc, .int .i64 aa, .int .i64 nn] 39)).drew.drew).cell? ((⟨wr.heap.size, 0, none⟩ : Addr).add j) = some u) ∧ wr.heap.size < ((wr.alloc (.cells #[.int .i64 f, .int .i64 cc, .int .i64 aa, .int .i64 nn] 39)).drew.drew).heap.size from ⟨later_news (show G (wr.alloc (.cells #[.int .i64 f, .int .i64 cc, .int .i64 aa, .int .i64 nn] 39)) ((wr.alloc (.cells #[.int .i64 f, .int .i64 cc, .int .i64 aa, .int .i64 nn] 39)).drew.drew) by (repeat' (first | (with_reducible exact G.refl _) | (with_reducible refine G.drewN ?_ _) | (with_reducible refine G.drew ?_) | (with_reducible refine G.alloc ?_ _)))) (new_add _ _ [.int .i64 f, .int .i64 cc, .int .i64 aa, .int .i64 nn] 39 (by simp)), by simp⟩)
                obtain ⟨y0, y1, y2, y3⟩ := FX.out.later gN
                dsimp only at y0 y1 y2 y3
                refine hKc.out _ _ (by ((try dsimp only); first | (with_reducible assumption) | ((repeat' (with_reducible apply And.intro)) <;> go_simp))) (fun hH8 => ?_)
                clear hKc Kc hH0
                clear y0 y1 y2 y3 gS
                have HBL := Lib.hid (show wr.heap.size < ((wr.alloc (.cells #[.int .i64 f, .int .i64 cc, .int .i64 aa, .int .i64 nn] 39)).drew.drew).heap.size by simp)
                obtain ⟨W1, hW1⟩ : ∃ z : World, Hid ((wr.alloc (.cells #[.int .i64 f, .int .i64 cc, .int .i64 aa, .int .i64 nn] 39)).drew.drew = z) := ⟨_, rfl⟩
                rw [hW1.out] at gN HBL HX' ⊢
                obtain ⟨BX, hBX⟩ : ∃ z : Nat, Hid (wr.heap.size = z) := ⟨_, rfl⟩
                rw [hBX.out] at HBL HX' ⊢
                have HBG := Lib.hid (show wr.heap.size ≤ BX by rw [← hBX.out]; exact (show G wr wr by first | with_reducible exact gC | exact G.refl _).size)
                clear gC
                have gC := gN
                clear gN
                have HX := HX'
                clear HX'
                clear HBL HBG
                refine wpAnyH_ready (rs := [0]) (by kernel_rfl) (by simp) ?_
                refine (AllReadyH.cons (o := { dst := some 31, op := Go.Op.buildSlice 27 0 #[], type := 27, pos := "ref.go:72", after := #[], guard := none }) rfl (fun Kc hKc => ?_) AllReadyH.nil)
                go_simp
                have gN : G wr ((W1.alloc (.cells #[] 39))) := (show G wr W1 by first | with_reducible exact gC | exact G.refl _).trans (by (repeat' (first | (with_reducible exact G.refl _) | (with_reducible refine G.drewN ?_ _) | (with_reducible refine G.drew ?_) | (with_reducible refine G.alloc ?_ _))))
                have gS : G W1 ((W1.alloc (.cells #[] 39))) := by (repeat' (first | (with_reducible exact G.refl _) | (with_reducible refine G.drewN ?_ _) | (with_reducible refine G.drew ?_) | (with_reducible refine G.alloc ?_ _)))
                have HE' := Lib.hid (own_later (row_new W1 W1.heap.size (by simp) 39 4) (show G _ ((W1.alloc (.cells #[] 39))) by (repeat' (first | (with_reducible exact G.refl _) | (with_reducible refine G.drewN ?_ _) | (with_reducible refine G.drew ?_) | (with_reducible refine G.alloc ?_ _)))))
                have HX' := Lib.hid (show (∀ j u, ([.int .i64 f, .int .i64 cc, .int .i64 aa, .int .i64 nn] : List Value)[j]? = some u → ((W1.alloc (.cells #[] 39))).cell? ((⟨BX, 0, none⟩ : Addr).add j) = some u) ∧ BX < ((W1.alloc (.cells #[] 39))).heap.size from ⟨later_news gS HX.out.1, Nat.lt_of_lt_of_le HX.out.2 gS.size⟩)
                have HNE' := Lib.hid (show BX ≠ W1.heap.size by have := HX.out.2; omega)
                obtain ⟨y0, y1, y2, y3⟩ := FX.out.later gN
                dsimp only at y0 y1 y2 y3
                refine hKc.out _ _ (by ((try dsimp only); first | (with_reducible assumption) | ((repeat' (with_reducible apply And.intro)) <;> go_simp))) (fun hH9 => ?_)
                clear hKc Kc hH8
                clear y0 y1 y2 y3 gS
                have HBL := Lib.hid (show W1.heap.size < ((W1.alloc (.cells #[] 39))).heap.size by simp)
                obtain ⟨W2, hW2⟩ : ∃ z : World, Hid ((W1.alloc (.cells #[] 39)) = z) := ⟨_, rfl⟩
                rw [hW2.out] at gN HBL HE' HX' ⊢
                obtain ⟨BE, hBE⟩ : ∃ z : Nat, Hid (W1.heap.size = z) := ⟨_, rfl⟩
                rw [hBE.out] at HBL HE' HNE' ⊢
                have HBG := Lib.hid (show wr.heap.size ≤ BE by rw [← hBE.out]; exact (show G wr W1 by first | with_reducible exact gC | exact G.refl _).size)
                clear gC
                have gC := gN
                clear gN
                have HE := HE'
                clear HE'
                clear HX
                have HX := HX'
                clear HX'
                have HNE := HNE'
                clear HNE'
                have HBE := HBL
                have HBEG := HBG
                clear HBL HBG
                refine wpAnyH_ready (rs := [4]) (by kernel_rfl) (by simp) ?_
                refine (AllReadyH.cons (o := { dst := some 35, op := Go.Op.call { callee := Go.Callee.builtin Go.Builtin.append, args := #[Go.Operand.tmp 31, Go.Operand.tmp 34], argTypes := #[27, 27] }, type := 27, pos := "ref.go:72", after := #[{ on := 0, ground := Go.Ground.data }, { on := 3, ground := Go.Ground.data }], guard := none }) rfl (fun Kc hKc => ?_) AllReadyH.nil)
                refine step_append_any rfl _ _ 27 rfl wr.heap.size 39 i0 (.agg #[.int .i64 0, .int .i64 0, .int .i64 0, .int .i64 0]) 4 32 Try.underlying27 hi0 hz0 hz1 hz2 rfl (by decide) BE 0 0 [] rfl (own_base (own_later HE.out (by (repeat' (first | (with_reducible exact G.refl _) | (with_reducible refine G.drewN ?_ _) | (with_reducible refine G.drew ?_) | (with_reducible refine G.alloc ?_ _))))) HBEG.out) (some ⟨gO, 0, none⟩) 0 cO ((([] : List Tu).reverse).flatMap tuE) rfl (fun h => by cases h) (by rw [flat_len tuE 4 tuE_len, List.length_reverse]; first | done | rfl) (fun ad ha => by obtain rfl := Option.some.inj ha; exact later_news (gr2.trans (gC.trans (by (repeat' (first | (with_reducible exact G.refl _) | (with_reducible refine G.drewN ?_ _) | (with_reducible refine G.drew ?_) | (with_reducible refine G.alloc ?_ _)))))) HNW.out) (flat_one _) (by unfold maxLen; have := HML.out; omega) (by have := HML.out; omega) (by have := gC.size; simp [go_sem]; try omega) ?_
                intro g8 c8 w8 hown8 hgrow8
                simp only [Nat.zero_add] at hown8
                try simp only [Nat.zero_add]
                have gN : G wr w8 := Below.grown (B := wr.heap.size) (show G wr _ from gC.trans (by (repeat' (first | (with_reducible exact G.refl _) | (with_reducible refine G.drewN ?_ _) | (with_reducible refine G.drew ?_) | (with_reducible refine G.alloc ?_ _))))) hgrow8 (by have := gC.size; simp [go_sem]; try omega) (fun k hk => by obtain rfl := Option.some.inj hk; exact HBEG.out)
                have HX' := Lib.hid (show (∀ j u, ([.int .i64 f, .int .i64 cc, .int .i64 aa, .int .i64 nn] : List Value)[j]? = some u → w8.cell? ((⟨BX, 0, none⟩ : Addr).add j) = some u) ∧ BX < w8.heap.size from ⟨keep_news hgrow8 (by have := HX.out.2; simp [go_sem]; try omega) (by simp only [ne_eq, Option.some.injEq]; exact HNE.out) (later_news (by (repeat' (first | (with_reducible exact G.refl _) | (with_reducible refine G.drewN ?_ _) | (with_reducible refine G.drew ?_) | (with_reducible refine G.alloc ?_ _)))) HX.out.1), Nat.lt_of_lt_of_le (by have := HX.out.2; simp [go_sem]; try omega) hgrow8.size⟩)
                clear HX
                have HX := HX'
                clear HX'
                obtain ⟨y0, y1, y2, y3⟩ := FX.out.later gN
                dsimp only at y0 y1 y2 y3
                refine hKc.out _ _ (by ((try dsimp only); first | (with_reducible assumption) | ((repeat' (with_reducible apply And.intro)) <;> go_simp))) (fun hH10 => ?_)
                clear hKc Kc hH9
                clear y0 y1 y2 y3
                have H8 := Lib.hid hown8
                have B8 := Lib.hid (own_ge hown8)
                clear hown8 hgrow8 gC HE
                have gC := gN
                clear gN
                refine wpAnyH_ready (rs := [10]) (by kernel_rfl) (by simp) ?_
                refine (AllReadyH.cons (o := { dst := some 41, op := Go.Op.call { callee := Go.Callee.builtin Go.Builtin.append, args := #[Go.Operand.tmp 35, Go.Operand.tmp 40], argTypes := #[27, 27] }, type := 27, pos := "ref.go:72", after := #[{ on := 4, ground := Go.Ground.data }, { on := 9, ground := Go.Ground.data }, { on := 4, ground := Go.Ground.chain }], guard := none }) rfl (fun Kc hKc => ?_) AllReadyH.nil)
                refine step_append_any rfl _ _ 27 rfl wr.heap.size 39 i0 (.agg #[.int .i64 0, .int .i64 0, .int .i64 0, .int .i64 0]) 4 32 Try.underlying27 hi0 hz0 hz1 hz2 rfl (by decide) g8 0 c8 ([] ++ (([] : List Tu).reverse).flatMap tuE) rfl (own_later H8.out (by (repeat' (first | (with_reducible exact G.refl _) | (with_reducible refine G.drewN ?_ _) | (with_reducible refine G.drew ?_) | (with_reducible refine G.alloc ?_ _))))) (some _) 1 1 [.int .i64 f, .int .i64 cc, .int .i64 aa, .int .i64 nn] rfl (fun h => by cases h) rfl (fun ad ha => by obtain rfl := Option.some.inj ha; exact later_news (by (repeat' (first | (with_reducible exact G.refl _) | (with_reducible refine G.drewN ?_ _) | (with_reducible refine G.drew ?_) | (with_reducible refine G.alloc ?_ _)))) HX.out.1) (flat_one [⟨f, cc, aa, nn⟩]) (by unfold maxLen; have := HML.out; omega) (by have := HML.out; omega) (by have := gC.size; simp [go_sem]; try omega) ?_
                intro g9 c9 w9 hown9 hgrow9
                have gN : G wr w9 := Below.grown (B := wr.heap.size) (show G wr _ from gC.trans (by (repeat' (first | (with_reducible exact G.refl _) | (with_reducible refine G.drewN ?_ _) | (with_reducible refine G.drew ?_) | (with_reducible refine G.alloc ?_ _))))) hgrow9 (by have := gC.size; simp [go_sem]; try omega) (fun k hk => by obtain rfl := Option.some.inj hk; exact B8.out)
                obtain ⟨y0, y1, y2, y3⟩ := FX.out.later gN
                dsimp only at y0 y1 y2 y3
                refine hKc.out _ _ (by ((try dsimp only); first | (with_reducible assumption) | ((repeat' (with_reducible apply And.intro)) <;> go_simp))) (fun hH11 => ?_)
                clear hKc Kc hH10
                clear y0 y1 y2 y3
                have H9 := Lib.hid hown9
                have B9 := Lib.hid (own_ge hown9)
                clear hown9 hgrow9 gC H8 HX
                have gN9 := gN
                clear gN
                refine wpAnyH_take (i := 11) (oi := { dst := some 6, op := Go.Op.assign (Go.Operand.tmp 41), type := 27, pos := "ref.go:72", after := #[{ on := 10, ground := Go.Ground.data }, { on := 10, ground := Go.Ground.chain }, { on := 0, ground := Go.Ground.phase }, { on := 1, ground := Go.Ground.phase }, { on := 2, ground := Go.Ground.phase }, { on := 3, ground := Go.Ground.phase }, { on := 4, ground := Go.Ground.phase }, { on := 5, ground := Go.Ground.phase }, { on := 6, ground := Go.Ground.phase }, { on := 7, ground := Go.Ground.phase }, { on := 8, ground := Go.Ground.phase }, { on := 9, ground := Go.Ground.phase }, { on := 10, ground := Go.Ground.phase }], guard := none }) (v := ?_) rfl (by kernel_rfl) (by kernel_rfl) (by kernel_rfl) (fun _ _ _ h => h) (Or.inl ⟨by rfl, ?_⟩) (by assumption) ?_
                rotate_left
                · (intro w hSw; (try dsimp only at hSw); go_simp) <;> (with_reducible rfl)
                simp only [Act.put, List.setIfInBounds_toArray, List.set_cons_zero, List.set_cons_succ]
                refine wpAnyH_done (by kernel_rfl) ?_ _
                go_wp2_with (at_builtin; refine append_all rfl _ _ 27 rfl wr.heap.size 39 i0 (.agg #[.int .i64 0, .int .i64 0, .int .i64 0, .int .i64 0]) 4 32 Try.underlying27 hi0 hz0 hz1 hz2 rfl (by decide) (.slice (some ⟨g9, 0, none⟩) (0 + 1) c9) (0 + 1) _ rfl (own_later H9.out (by (repeat' (first | (with_reducible exact G.refl _) | (with_reducible refine G.drewN ?_ _) | (with_reducible refine G.drew ?_) | (with_reducible refine G.alloc ?_ _))))) (some ⟨gO, 0 * 4, none⟩) (i - 0) (cO - 0) (p.reverse.flatMap tuE) rfl (fun h => by cases h) (by rw [flat_len tuE 4 tuE_len, List.length_reverse]; have := HPL.out; omega) (fun ad ha => by obtain rfl := Option.some.inj ha; exact later_news (gr2.trans (gN9.trans (by (repeat' (first | (with_reducible exact G.refl _) | (with_reducible refine G.drewN ?_ _) | (with_reducible refine G.drew ?_) | (with_reducible refine G.alloc ?_ _)))))) HND.out) (flat_one _) (by unfold maxLen; have := HML.out; omega) (by have := HML.out; omega) (by have := gN9.size; simp [go_sem]; try omega) ?_; intro v' w10 hown10 hgrow10 _)
                all_goals
                  have gN10 : G wr w10 := Below.grown (B := wr.heap.size) (gN9.trans (show G w9 _ by (repeat' (first | (with_reducible exact G.refl _) | (with_reducible assumption) | (with_reducible refine G.drewN ?_ _) | (with_reducible refine G.drew ?_) | (with_reducible refine G.alloc ?_ _) | (with_reducible refine G.setCell ?_ (by first | (with_reducible exact Nat.le_refl _) | (simp; done) | (simp; omega) | omega) _) | (with_reducible refine G.trans ?_ (by assumption)))))) hgrow10 (by have := gN9.size; simp [go_sem]; try omega) (fun k hk => by have : g9 = k := (by simpa [Value.ownBlock] using hk); have := B9.out; omega)
                  have RN := Lib.hid (row_of (M := (rs (l.take (i + 1))).reverse) hown10 (by rw [HEND.out, List.length_cons, List.length_reverse]; have := HPL.out; have := HQL.out; have := HIL.out; omega) (by rw [HEND.out]; simp [tuE]))
                  go_roundg (n - (i + 1))
                  case measure => have := HK.out; have := HI.out; omega
                  case rel => exact ⟨i + 1, v', rfl, by first | rfl | go_num, rfl, by have := HI.out; omega, Lib.hid (own_base RN.out HG2.out), gwr.trans gN10⟩
          | cons y q =>
            obtain ⟨f', c', a', n'⟩ := y
            have hy : (rs (l.take i)).reverse[q.length]? = some ⟨f', c', a', n'⟩ := by
              rw [hE.out, List.reverse_append, List.reverse_cons, List.append_assoc, List.getElem?_append_right (by rw [List.length_reverse]; exact Nat.le_refl _), List.length_reverse, Nat.sub_self]
              rfl
            obtain ⟨m, hm⟩ : ∃ z : Nat, Hid (q.length + 1 = z) := ⟨_, rfl⟩
            rw [show (⟨f', c', a', n'⟩ :: q : List Tu).length = m from hm.out] at hqi HK2 HPL HQL HND ⊢
            have hmm := hm.out
            have y0 := gr2.at (HCELL.out q.length _ hy 0 _ rfl).1
            have y1 := gr2.at (HCELL.out q.length _ hy 1 _ rfl).1
            have y2 := gr2.at (HCELL.out q.length _ hy 2 _ rfl).1
            have y3 := gr2.at (HCELL.out q.length _ hy 3 _ rfl).1
            rw [Nat.add_zero (q.length * 4)] at y0
            have d0 : (0 : Int) < (m : Int) := by omega
            have d1 : decide (0 < (m : Int)) = true := decide_eq_true d0
            have d2 : 0 < m := by omega
            have d3 : decide (0 < m) = true := decide_eq_true d2
            have d4 : (1 : Int) ≤ (m : Int) := by omega
            have d5 : (0 : Int) ≤ (m : Int) - 1 := by omega
            have d6 : (m : Int) - 1 < (i : Int) := by omega
            have d8 := IntWalk.i64_in ((m : Int) - 1) (by have := HIL.out; omega)
            have d9 : ((m : Int) - 1).toNat = q.length := by omega
            have da : (0 : Int) ≤ (m : Int) := by omega
            have db : (m : Int) ≤ (cO : Int) := by have := HCO.out; omega
            have dc : m ≤ cO := by have := HCO.out; omega
            have dd : (m : Int) ≤ (i : Int) := by omega
            have de : m ≤ i := by omega
            have df : (i : Int) ≤ (cO : Int) := by have := HCO.out; omega
            clear hy hmm
            by_cases hc : Aft ⟨f, cc, aa, nn⟩ ⟨f', c', a', n'⟩
            · have HAF := Lib.hid hc
              clear hc
              go_wp2_with fail
              go_region_held3 (fun w' => w'.cell? ⟨b0, of + i * 4, none⟩ = some (.int .i64 f) ∧ w'.cell? ⟨b0, of + i * 4 + 1, none⟩ = some (.int .i64 cc) ∧ w'.cell? ⟨b0, of + i * 4 + 2, none⟩ = some (.int .i64 aa) ∧ w'.cell? ⟨b0, of + i * 4 + 3, none⟩ = some (.int .i64 nn) ∧ w'.cell? ⟨gO, q.length * 4, none⟩ = some (.int .i64 f') ∧ w'.cell? ⟨gO, q.length * 4 + 1, none⟩ = some (.int .i64 c') ∧ w'.cell? ⟨gO, q.length * 4 + 2, none⟩ = some (.int .i64 a') ∧ w'.cell? ⟨gO, q.length * 4 + 3, none⟩ = some (.int .i64 n'))
                (first | (with_reducible assumption) | ((try dsimp only); (repeat' (with_reducible apply And.intro)) <;> go_simp))
                (first | (go_at_call 42; refine (rAfter_any _ _ _ _ _ _ _ _ _).mono ?_; rintro x w3 ⟨rfl, hG3⟩; rw [decide_eq_true HAF.out]; have gq : G wr w3 := G.trans (by (repeat' (first | (with_reducible exact G.refl _) | (with_reducible refine G.drewN ?_ _) | (with_reducible refine G.drew ?_) | (with_reducible refine G.alloc ?_ _)))) hG3; have Z0 := gq.at X0; have Z1 := gq.at X1; have Z2 := gq.at X2; have Z3 := gq.at X3; have Y0 := gq.at y0; have Y1 := gq.at y1; have Y2 := gq.at y2; have Y3 := gq.at y3))
              all_goals
                go_wp2_with fail
                go_roundg q.length
                case measure => have := HK2.out; have := hm.out; omega
                case rel => exact ⟨p ++ [⟨f', c', a', n'⟩], q, by first | rfl | go_num | (rw [← hm.out]; go_num), rfl, by have := hm.out; omega, Lib.hid (by rw [hE.out, List.append_assoc]; rfl), Lib.hid (fun z hz => by
                  rcases List.mem_append.1 hz with h | h
                  · exact hA.out z h
                  · rw [List.mem_singleton.1 h]; exact HAF.out), gr2.trans gq⟩
            · have HAF := Lib.hid hc
              have HEND := Lib.hid (show (rs (l.take (i + 1))).reverse = (⟨f', c', a', n'⟩ :: q).reverse ++ ⟨f, cc, aa, nn⟩ :: p.reverse by
                rw [rs_next HP.out, hE.out, ins_at hA.out (by intro z hz; simp at hz; rw [← hz]; exact HAF.out)]; simp)
              clear hc
              go_wp2_with fail
              go_region_held3 (fun w' => w'.cell? ⟨b0, of + i * 4, none⟩ = some (.int .i64 f) ∧ w'.cell? ⟨b0, of + i * 4 + 1, none⟩ = some (.int .i64 cc) ∧ w'.cell? ⟨b0, of + i * 4 + 2, none⟩ = some (.int .i64 aa) ∧ w'.cell? ⟨b0, of + i * 4 + 3, none⟩ = some (.int .i64 nn) ∧ w'.cell? ⟨gO, q.length * 4, none⟩ = some (.int .i64 f') ∧ w'.cell? ⟨gO, q.length * 4 + 1, none⟩ = some (.int .i64 c') ∧ w'.cell? ⟨gO, q.length * 4 + 2, none⟩ = some (.int .i64 a') ∧ w'.cell? ⟨gO, q.length * 4 + 3, none⟩ = some (.int .i64 n'))
                (first | (with_reducible assumption) | ((try dsimp only); (repeat' (with_reducible apply And.intro)) <;> go_simp))
                (first | (go_at_call 42; refine (rAfter_any _ _ _ _ _ _ _ _ _).mono ?_; rintro x w3 ⟨rfl, hG3⟩; rw [decide_eq_false HAF.out]; have gq : G wr w3 := G.trans (by (repeat' (first | (with_reducible exact G.refl _) | (with_reducible refine G.drewN ?_ _) | (with_reducible refine G.drew ?_) | (with_reducible refine G.alloc ?_ _)))) hG3; have Z0 := gq.at X0; have Z1 := gq.at X1; have Z2 := gq.at X2; have Z3 := gq.at X3; have Y0 := gq.at y0; have Y1 := gq.at y1; have Y2 := gq.at y2; have Y3 := gq.at y3))
              all_goals
                have gr3 := gr2.trans gq
                clear gr2 X0 X1 X2 X3
                have gr2 := gr3
                clear gr3 gwr HG2
                have HG2 := Lib.hid (show w.heap.size ≤ w3.heap.size from Nat.le_trans gr.size gr2.size)
                have gwr := gr.trans gr2
                obtain ⟨X0, X1, X2, X3⟩ := FC.out.later gwr
                dsimp only at X0 X1 X2 X3
                obtain ⟨wr, hwr⟩ : ∃ z : World, Hid (w3 = z) := ⟨_, rfl⟩
                rw [hwr.out] at HG2 gwr gr2 X0 X1 X2 X3 ⊢
                clear gq hG3 y0 y1 y2 y3 Y0 Y1 Y2 Y3 Z0 Z1 Z2 Z3
                go_wp2_with fail
                have FX := Lib.hid (show Tu4 wr b0 (of + i * 4) ⟨f, cc, aa, nn⟩ from ⟨X0, X1, X2, X3⟩)
                have HML := Lib.hid (show n ≤ 20 from HN.out.2)
                have gC : G wr wr.drew := by (repeat' (first | (with_reducible exact G.refl _) | (with_reducible refine G.drewN ?_ _) | (with_reducible refine G.drew ?_) | (with_reducible refine G.alloc ?_ _)))
                refine wp_region_held_drew (S := fun w' => w'.cell? ⟨b0, of + i * 4, none⟩ = some (.int .i64 f) ∧ w'.cell? ⟨b0, of + i * 4 + 1, none⟩ = some (.int .i64 cc) ∧ w'.cell? ⟨b0, of + i * 4 + 2, none⟩ = some (.int .i64 aa) ∧ w'.cell? ⟨b0, of + i * 4 + 3, none⟩ = some (.int .i64 nn)) (by kernel_rfl) (by ((try dsimp only); first | (with_reducible assumption) | ((repeat' (with_reducible apply And.intro)) <;> go_simp))) (fun hH0 => ?_)
                refine wpAnyH_take (i := 1) (oi := { dst := some 32, op := Go.Op.move (Go.Operand.tmp 3), type := 27, pos := "ref.go:72", after := #[], guard := none }) (v := ?_) rfl (by kernel_rfl) (by kernel_rfl) (by kernel_rfl) (fun _ _ _ h => h) (Or.inl ⟨by rfl, ?_⟩) (by assumption) ?_
                rotate_left
                · (intro w hSw; (try dsimp only at hSw); go_simp) <;> (with_reducible rfl)
                simp only [Act.put, List.setIfInBounds_toArray, List.set_cons_zero, List.set_cons_succ]
                refine wpAnyH_take (i := 2) (oi := { dst := some 33, op := Go.Op.move (Go.Operand.tmp 5), type := 3, pos := "ref.go:72", after := #[], guard := none }) (v := ?_) rfl (by kernel_rfl) (by kernel_rfl) (by kernel_rfl) (fun _ _ _ h => h) (Or.inl ⟨by rfl, ?_⟩) (by assumption) ?_
                rotate_left
                · (intro w hSw; (try dsimp only at hSw); go_simp) <;> (with_reducible rfl)
                simp only [Act.put, List.setIfInBounds_toArray, List.set_cons_zero, List.set_cons_succ]
                refine wpAnyH_take (i := 3) (oi := { dst := some 34, op := Go.Op.slice 27 (Go.Operand.tmp 32) none (some (Go.Operand.tmp 33)) none, type := 27, pos := "ref.go:72", after := #[{ on := 1, ground := Go.Ground.data }, { on := 2, ground := Go.Ground.data }], guard := none }) (v := ?_) rfl (by kernel_rfl) (by kernel_rfl) (by kernel_rfl) (fun _ _ _ h => h) (Or.inl ⟨by rfl, ?_⟩) (by assumption) ?_
                rotate_left
                · (intro w hSw; (try dsimp only at hSw); go_simp) <;> (with_reducible rfl)
                simp only [Act.put, List.setIfInBounds_toArray, List.set_cons_zero, List.set_cons_succ]
                refine wpAnyH_take (i := 5) (oi := { dst := some 36, op := Go.Op.move (Go.Operand.tmp 0), type := 27, pos := "ref.go:72", after := #[], guard := none }) (v := ?_) rfl (by kernel_rfl) (by kernel_rfl) (by kernel_rfl) (fun _ _ _ h => h) (Or.inl ⟨by rfl, ?_⟩) (by assumption) ?_
                rotate_left
                · (intro w hSw; (try dsimp only at hSw); go_simp) <;> (with_reducible rfl)
                simp only [Act.put, List.setIfInBounds_toArray, List.set_cons_zero, List.set_cons_succ]
                refine wpAnyH_take (i := 6) (oi := { dst := some 37, op := Go.Op.move (Go.Operand.tmp 4), type := 3, pos := "ref.go:72", after := #[], guard := none }) (v := ?_) rfl (by kernel_rfl) (by kernel_rfl) (by kernel_rfl) (fun _ _ _ h => h) (Or.inl ⟨by rfl, ?_⟩) (by assumption) ?_
                rotate_left
                · (intro w hSw; (try dsimp only at hSw); go_simp) <;> (with_reducible rfl)
                simp only [Act.put, List.setIfInBounds_toArray, List.set_cons_zero, List.set_cons_succ]
                refine wpAnyH_take (i := 7) (oi := { dst := some 38, op := Go.Op.indexAddr 27 (Go.Operand.tmp 36) (Go.Operand.tmp 37), type := 0, pos := "ref.go:72", after := #[{ on := 5, ground := Go.Ground.data }, { on := 6, ground := Go.Ground.data }], guard := none }) (v := ?_) rfl (by kernel_rfl) (by kernel_rfl) (by kernel_rfl) (fun _ _ _ h => h) (Or.inl ⟨by rfl, ?_⟩) (by assumption) ?_
                rotate_left
                · (intro w hSw; (try dsimp only at hSw); go_simp) <;> (with_reducible rfl)
                simp only [Act.put, List.setIfInBounds_toArray, List.set_cons_zero, List.set_cons_succ]
                refine wpAnyH_take (i := 8) (oi := { dst := some 39, op := Go.Op.load 39 (Go.Operand.tmp 38), type := 39, pos := "ref.go:72", after := #[{ on := 7, ground := Go.Ground.data }], guard := none }) (v := ?_) rfl (by kernel_rfl) (by kernel_rfl) (by kernel_rfl) (fun _ _ _ h => h) (Or.inl ⟨by rfl, ?_⟩) (by assumption) ?_
                rotate_left
                · (intro w hSw; (try dsimp only at hSw); go_simp) <;> (with_reducible rfl)
                simp only [Act.put, List.setIfInBounds_toArray, List.set_cons_zero, List.set_cons_succ]
                refine wpAnyH_ready (rs := [0, 9]) (by kernel_rfl) (by simp) ?_
                refine (AllReadyH.cons (o := { dst := some 31, op := Go.Op.buildSlice 27 0 #[], type := 27, pos := "ref.go:72", after := #[], guard := none }) rfl (fun Kc hKc => ?_) (AllReadyH.cons (o := { dst := some 40, op := Go.Op.buildSlice 27 1 #[(0, Go.Operand.tmp 39)], type := 27, pos := "ref.go:72", after := #[{ on := 8, ground := Go.Ground.data }], guard := none }) rfl (fun Kc hKc => ?_) AllReadyH.nil))
                · go_simp
                  have gN : G wr ((wr.alloc (.cells #[] 39)).drew) := (show G wr wr by first | with_reducible exact gC | exact G.refl _).trans (by (repeat' (first | (with_reducible exact G.refl _) | (with_reducible refine G.drewN ?_ _) | (with_reducible refine G.drew ?_) | (with_reducible refine G.alloc ?_ _))))
                  have gS : G wr ((wr.alloc (.cells #[] 39)).drew) := by (repeat' (first | (with_reducible exact G.refl _) | (with_reducible refine G.drewN ?_ _) | (with_reducible refine G.drew ?_) | (with_reducible refine G.alloc ?_ _)))
                  have HE' := Lib.hid (own_later (row_new wr wr.heap.size (by simp) 39 4) (show G _ ((wr.alloc (.cells #[] 39)).drew) by (repeat' (first | (with_reducible exact G.refl _) | (with_reducible refine G.drewN ?_ _) | (with_reducible refine G.drew ?_) | (with_reducible refine G.alloc ?_ _)))))
                  obtain ⟨y0, y1, y2, y3⟩ := FX.out.later gN
                  dsimp only at y0 y1 y2 y3
                  refine hKc.out _ _ (by ((try dsimp only); first | (with_reducible assumption) | ((repeat' (with_reducible apply And.intro)) <;> go_simp))) (fun hH1 => ?_)
                  clear hKc Kc hH0
                  clear y0 y1 y2 y3 gS
                  have HBL := Lib.hid (show wr.heap.size < ((wr.alloc (.cells #[] 39)).drew).heap.size by simp)
                  obtain ⟨W1, hW1⟩ : ∃ z : World, Hid ((wr.alloc (.cells #[] 39)).drew = z) := ⟨_, rfl⟩
                  rw [hW1.out] at gN HBL HE' ⊢
                  obtain ⟨BE, hBE⟩ : ∃ z : Nat, Hid (wr.heap.size = z) := ⟨_, rfl⟩
                  rw [hBE.out] at HBL HE' ⊢
                  have HBG := Lib.hid (show wr.heap.size ≤ BE by rw [← hBE.out]; exact (show G wr wr by first | with_reducible exact gC | exact G.refl _).size)
                  clear gC
                  have gC := gN
                  clear gN
                  have HE := HE'
                  clear HE'
                  have HBE := HBL
                  have HBEG := HBG
                  clear HBL HBG
                  refine wpAnyH_ready (rs := [4, 9]) (by kernel_rfl) (by simp) ?_
                  refine (AllReadyH.cons (o := { dst := some 35, op := Go.Op.call { callee := Go.Callee.builtin Go.Builtin.append, args := #[Go.Operand.tmp 31, Go.Operand.tmp 34], argTypes := #[27, 27] }, type := 27, pos := "ref.go:72", after := #[{ on := 0, ground := Go.Ground.data }, { on := 3, ground := Go.Ground.data }], guard := none }) rfl (fun Kc hKc => ?_) (AllReadyH.cons (o := { dst := some 40, op := Go.Op.buildSlice 27 1 #[(0, Go.Operand.tmp 39)], type := 27, pos := "ref.go:72", after := #[{ on := 8, ground := Go.Ground.data }], guard := none }) rfl (fun Kc hKc => ?_) AllReadyH.nil))
                  · refine step_append_any rfl _ _ 27 rfl wr.heap.size 39 i0 (.agg #[.int .i64 0, .int .i64 0, .int .i64 0, .int .i64 0]) 4 32 Try.underlying27 hi0 hz0 hz1 hz2 rfl (by decide) BE 0 0 [] rfl (own_base (own_later HE.out (by (repeat' (first | (with_reducible exact G.refl _) | (with_reducible refine G.drewN ?_ _) | (with_reducible refine G.drew ?_) | (with_reducible refine G.alloc ?_ _))))) HBEG.out) (some ⟨gO, 0, none⟩) m cO (((⟨f', c', a', n'⟩ :: q : List Tu).reverse).flatMap tuE) rfl (fun h => by cases h) (by rw [flat_len tuE 4 tuE_len, List.length_reverse]; rw [show (⟨f', c', a', n'⟩ :: q : List Tu).length = m from hm.out]) (fun ad ha => by obtain rfl := Option.some.inj ha; exact later_news (gr2.trans (gC.trans (by (repeat' (first | (with_reducible exact G.refl _) | (with_reducible refine G.drewN ?_ _) | (with_reducible refine G.drew ?_) | (with_reducible refine G.alloc ?_ _)))))) HNW.out) (flat_one _) (by unfold maxLen; have := HML.out; omega) (by have := HML.out; omega) (by have := gC.size; simp [go_sem]; try omega) ?_
                    intro g8 c8 w8 hown8 hgrow8
                    simp only [Nat.zero_add] at hown8
                    try simp only [Nat.zero_add]
                    have gN : G wr w8 := Below.grown (B := wr.heap.size) (show G wr _ from gC.trans (by (repeat' (first | (with_reducible exact G.refl _) | (with_reducible refine G.drewN ?_ _) | (with_reducible refine G.drew ?_) | (with_reducible refine G.alloc ?_ _))))) hgrow8 (by have := gC.size; simp [go_sem]; try omega) (fun k hk => by obtain rfl := Option.some.inj hk; exact HBEG.out)
                    obtain ⟨y0, y1, y2, y3⟩ := FX.out.later gN
                    dsimp only at y0 y1 y2 y3
                    refine hKc.out _ _ (by ((try dsimp only); first | (with_reducible assumption) | ((repeat' (with_reducible apply And.intro)) <;> go_simp))) (fun hH2 => ?_)
                    clear hKc Kc hH1
                    clear y0 y1 y2 y3
                    have H8 := Lib.hid hown8
                    have B8 := Lib.hid (own_ge hown8)
                    clear hown8 hgrow8 gC HE
                    have gC := gN
                    clear gN
                    refine wpAnyH_ready (rs := [9]) (by kernel_rfl) (by simp) ?_
                    refine (AllReadyH.cons (o := { dst := some 40, op := Go.Op.buildSlice 27 1 #[(0, Go.Operand.tmp 39)], type := 27, pos := "ref.go:72", after := #[{ on := 8, ground := Go.Ground.data }], guard := none }) rfl (fun Kc hKc => ?_) AllReadyH.nil)
                    go_simp
                    have gN : G wr ((w8.alloc (.cells #[.int .i64 f, .int .i64 cc, .int .i64 aa, .int .i64 nn] 39))) := (show G wr w8 by first | with_reducible exact gC | exact G.refl _).trans (by (repeat' (first | (with_reducible exact G.refl _) | (with_reducible refine G.drewN ?_ _) | (with_reducible refine G.drew ?_) | (with_reducible refine G.alloc ?_ _))))
                    have gS : G w8 ((w8.alloc (.cells #[.int .i64 f, .int .i64 cc, .int .i64 aa, .int .i64 nn] 39))) := by (repeat' (first | (with_reducible exact G.refl _) | (with_reducible refine G.drewN ?_ _) | (with_reducible refine G.drew ?_) | (with_reducible refine G.alloc ?_ _)))
                    have HX' := Lib.hid (show (∀ j u, ([.int .i64 f, .int .i64 cc, .int .i64 aa, .int .i64 nn] : List Value)[j]? = some u → ((w8.alloc (.cells #[.int .i64 f, .int .i64 cc, .int .i64 aa, .int .i64 nn] 39))).cell? ((⟨w8.heap.size, 0, none⟩ : Addr).add j) = some u) ∧ w8.heap.size < ((w8.alloc (.cells #[.int .i64 f, .int .i64 cc, .int .i64 aa, .int .i64 nn] 39))).heap.size from ⟨later_news (show G (w8.alloc (.cells #[.int .i64 f, .int .i64 cc, .int .i64 aa, .int .i64 nn] 39)) ((w8.alloc (.cells #[.int .i64 f, .int .i64 cc, .int .i64 aa, .int .i64 nn] 39))) by (repeat' (first | (with_reducible exact G.refl _) | (with_reducible refine G.drewN ?_ _) | (with_reducible refine G.drew ?_) | (with_reducible refine G.alloc ?_ _)))) (new_add _ _ [.int .i64 f, .int .i64 cc, .int .i64 aa, .int .i64 nn] 39 (by simp)), by simp⟩)
                    have H8' := Lib.hid (own_later H8.out gS)
                    obtain ⟨y0, y1, y2, y3⟩ := FX.out.later gN
                    dsimp only at y0 y1 y2 y3
                    refine hKc.out _ _ (by ((try dsimp only); first | (with_reducible assumption) | ((repeat' (with_reducible apply And.intro)) <;> go_simp))) (fun hH3 => ?_)
                    clear hKc Kc hH2
                    clear y0 y1 y2 y3 gS
                    have HBL := Lib.hid (show w8.heap.size < ((w8.alloc (.cells #[.int .i64 f, .int .i64 cc, .int .i64 aa, .int .i64 nn] 39))).heap.size by simp)
                    obtain ⟨W2, hW2⟩ : ∃ z : World, Hid ((w8.alloc (.cells #[.int .i64 f, .int .i64 cc, .int .i64 aa, .int .i64 nn] 39)) = z) := ⟨_, rfl⟩
                    rw [hW2.out] at gN HBL HX' H8' ⊢
                    obtain ⟨BX, hBX⟩ : ∃ z : Nat, Hid (w8.heap.size = z) := ⟨_, rfl⟩
                    rw [hBX.out] at HBL HX' ⊢
                    have HBG := Lib.hid (show wr.heap.size ≤ BX by rw [← hBX.out]; exact (show G wr w8 by first | with_reducible exact gC | exact G.refl _).size)
                    clear gC
                    have gC := gN
                    clear gN
                    have HX := HX'
                    clear HX'
                    clear H8
                    have H8 := H8'
                    clear H8'
                    clear HBL HBG
                    refine wpAnyH_ready (rs := [10]) (by kernel_rfl) (by simp) ?_
                    refine (AllReadyH.cons (o := { dst := some 41, op := Go.Op.call { callee := Go.Callee.builtin Go.Builtin.append, args := #[Go.Operand.tmp 35, Go.Operand.tmp 40], argTypes := #[27, 27] }, type := 27, pos := "ref.go:72", after := #[{ on := 4, ground := Go.Ground.data }, { on := 9, ground := Go.Ground.data }, { on := 4, ground := Go.Ground.chain }], guard := none }) rfl (fun Kc hKc => ?_) AllReadyH.nil)
                    refine step_append_any rfl _ _ 27 rfl wr.heap.size 39 i0 (.agg #[.int .i64 0, .int .i64 0, .int .i64 0, .int .i64 0]) 4 32 Try.underlying27 hi0 hz0 hz1 hz2 rfl (by decide) g8 m c8 ([] ++ ((⟨f', c', a', n'⟩ :: q : List Tu).reverse).flatMap tuE) rfl (own_later H8.out (by (repeat' (first | (with_reducible exact G.refl _) | (with_reducible refine G.drewN ?_ _) | (with_reducible refine G.drew ?_) | (with_reducible refine G.alloc ?_ _))))) (some _) 1 1 [.int .i64 f, .int .i64 cc, .int .i64 aa, .int .i64 nn] rfl (fun h => by cases h) rfl (fun ad ha => by obtain rfl := Option.some.inj ha; exact later_news (by (repeat' (first | (with_reducible exact G.refl _) | (with_reducible refine G.drewN ?_ _) | (with_reducible refine G.drew ?_) | (with_reducible refine G.alloc ?_ _)))) HX.out.1) (flat_one [⟨f, cc, aa, nn⟩]) (by unfold maxLen; have := HML.out; omega) (by have := HML.out; omega) (by have := gC.size; simp [go_sem]; try omega) ?_
                    intro g9 c9 w9 hown9 hgrow9
                    have gN : G wr w9 := Below.grown (B := wr.heap.size) (show G wr _ from gC.trans (by (repeat' (first | (with_reducible exact G.refl _) | (with_reducible refine G.drewN ?_ _) | (with_reducible refine G.drew ?_) | (with_reducible refine G.alloc ?_ _))))) hgrow9 (by have := gC.size; simp [go_sem]; try omega) (fun k hk => by obtain rfl := Option.some.inj hk; exact B8.out)
                    obtain ⟨y0, y1, y2, y3⟩ := FX.out.later gN
                    dsimp only at y0 y1 y2 y3
                    refine hKc.out _ _ (by ((try dsimp only); first | (with_reducible assumption) | ((repeat' (with_reducible apply And.intro)) <;> go_simp))) (fun hH4 => ?_)
                    clear hKc Kc hH3
                    clear y0 y1 y2 y3
                    have H9 := Lib.hid hown9
                    have B9 := Lib.hid (own_ge hown9)
                    clear hown9 hgrow9 gC H8 HX
                    have gN9 := gN
                    clear gN
                    refine wpAnyH_take (i := 11) (oi := { dst := some 6, op := Go.Op.assign (Go.Operand.tmp 41), type := 27, pos := "ref.go:72", after := #[{ on := 10, ground := Go.Ground.data }, { on := 10, ground := Go.Ground.chain }, { on := 0, ground := Go.Ground.phase }, { on := 1, ground := Go.Ground.phase }, { on := 2, ground := Go.Ground.phase }, { on := 3, ground := Go.Ground.phase }, { on := 4, ground := Go.Ground.phase }, { on := 5, ground := Go.Ground.phase }, { on := 6, ground := Go.Ground.phase }, { on := 7, ground := Go.Ground.phase }, { on := 8, ground := Go.Ground.phase }, { on := 9, ground := Go.Ground.phase }, { on := 10, ground := Go.Ground.phase }], guard := none }) (v := ?_) rfl (by kernel_rfl) (by kernel_rfl) (by kernel_rfl) (fun _ _ _ h => h) (Or.inl ⟨by rfl, ?_⟩) (by assumption) ?_
                    rotate_left
                    · (intro w hSw; (try dsimp only at hSw); go_simp) <;> (with_reducible rfl)
                    simp only [Act.put, List.setIfInBounds_toArray, List.set_cons_zero, List.set_cons_succ]
                    refine wpAnyH_done (by kernel_rfl) ?_ _
                    have HN9 := Lib.hid (show ∀ ad, (if cO = m then some (⟨gO, 0, none⟩ : Addr) else some ⟨gO, m * 4, none⟩) = some ad → ∀ j u, (p.reverse.flatMap tuE)[j]? = some u → w9.cell? (ad.add j) = some u from fun ad ha j u hj => by
                      split at ha
                      · have hpl : p.length = 0 := by have := HPL.out; have := HCO.out; omega
                        rw [List.length_eq_zero_iff.1 hpl] at hj
                        simp at hj
                      · obtain rfl := Option.some.inj ha
                        exact later_news (gr2.trans gN9) HND.out j u hj)
                    go_wp2_with (at_builtin; refine append_all rfl _ _ 27 rfl wr.heap.size 39 i0 (.agg #[.int .i64 0, .int .i64 0, .int .i64 0, .int .i64 0]) 4 32 Try.underlying27 hi0 hz0 hz1 hz2 rfl (by decide) (.slice (some ⟨g9, 0, none⟩) (m + 1) c9) (m + 1) _ rfl (own_later H9.out (by (repeat' (first | (with_reducible exact G.refl _) | (with_reducible refine G.drewN ?_ _) | (with_reducible refine G.drew ?_) | (with_reducible refine G.alloc ?_ _))))) (if cO = m then some ⟨gO, 0, none⟩ else some ⟨gO, m * 4, none⟩) (i - m) (cO - m) (p.reverse.flatMap tuE) rfl (fun h => by split at h <;> cases h) (by rw [flat_len tuE 4 tuE_len, List.length_reverse]; have := HPL.out; omega) (fun ad ha => later_news (show G w9 _ by (repeat' (first | (with_reducible exact G.refl _) | (with_reducible refine G.drewN ?_ _) | (with_reducible refine G.drew ?_) | (with_reducible refine G.alloc ?_ _)))) (HN9.out ad ha)) (flat_one _) (by unfold maxLen; have := HML.out; omega) (by have := HML.out; omega) (by have := gN9.size; simp [go_sem]; try omega) ?_; intro v' w10 hown10 hgrow10 _)
                    all_goals
                      have gN10 : G wr w10 := Below.grown (B := wr.heap.size) (gN9.trans (show G w9 _ by (repeat' (first | (with_reducible exact G.refl _) | (with_reducible assumption) | (with_reducible refine G.drewN ?_ _) | (with_reducible refine G.drew ?_) | (with_reducible refine G.alloc ?_ _) | (with_reducible refine G.setCell ?_ (by first | (with_reducible exact Nat.le_refl _) | (simp; done) | (simp; omega) | omega) _) | (with_reducible refine G.trans ?_ (by assumption)))))) hgrow10 (by have := gN9.size; simp [go_sem]; try omega) (fun k hk => by have : g9 = k := (by simpa [Value.ownBlock] using hk); have := B9.out; omega)
                      have RN := Lib.hid (row_of (M := (rs (l.take (i + 1))).reverse) hown10 (by rw [HEND.out, List.length_append, List.length_cons, List.length_reverse, List.length_reverse, show (⟨f', c', a', n'⟩ :: q : List Tu).length = m from hm.out]; have := HPL.out; have := HQL.out; have := HIL.out; omega) (by rw [HEND.out]; simp [tuE]))
                      go_roundg (n - (i + 1))
                      case measure => have := HK.out; have := HI.out; omega
                      case rel => exact ⟨i + 1, v', rfl, by first | rfl | go_num, rfl, by have := HI.out; omega, Lib.hid (own_base RN.out HG2.out), gwr.trans gN10⟩
                  · go_simp
                    have gN : G wr ((W1.alloc (.cells #[.int .i64 f, .int .i64 cc, .int .i64 aa, .int .i64 nn] 39))) := (show G wr W1 by first | with_reducible exact gC | exact G.refl _).trans (by (repeat' (first | (with_reducible exact G.refl _) | (with_reducible refine G.drewN ?_ _) | (with_reducible refine G.drew ?_) | (with_reducible refine G.alloc ?_ _))))
                    have gS : G W1 ((W1.alloc (.cells #[.int .i64 f, .int .i64 cc, .int .i64 aa, .int .i64 nn] 39))) := by (repeat' (first | (with_reducible exact G.refl _) | (with_reducible refine G.drewN ?_ _) | (with_reducible refine G.drew ?_) | (with_reducible refine G.alloc ?_ _)))
                    have HX' := Lib.hid (show (∀ j u, ([.int .i64 f, .int .i64 cc, .int .i64 aa, .int .i64 nn] : List Value)[j]? = some u → ((W1.alloc (.cells #[.int .i64 f, .int .i64 cc, .int .i64 aa, .int .i64 nn] 39))).cell? ((⟨W1.heap.size, 0, none⟩ : Addr).add j) = some u) ∧ W1.heap.size < ((W1.alloc (.cells #[.int .i64 f, .int .i64 cc, .int .i64 aa, .int .i64 nn] 39))).heap.size from ⟨later_news (show G (W1.alloc (.cells #[.int .i64 f, .int .i64 cc, .int .i64 aa, .int .i64 nn] 39)) ((W1.alloc (.cells #[.int .i64 f, .int .i64 cc, .int .i64 aa, .int .i64 nn] 39))) by (repeat' (first | (with_reducible exact G.refl _) | (with_reducible refine G.drewN ?_ _) | (with_reducible refine G.drew ?_) | (with_reducible refine G.alloc ?_ _)))) (new_add _ _ [.int .i64 f, .int .i64 cc, .int .i64 aa, .int .i64 nn] 39 (by simp)), by simp⟩)
                    have HE' := Lib.hid (own_later HE.out gS)
                    have HNE' := Lib.hid (show W1.heap.size ≠ BE by have := HBE.out; omega)
                    obtain ⟨y0, y1, y2, y3⟩ := FX.out.later gN
                    dsimp only at y0 y1 y2 y3
                    refine hKc.out _ _ (by ((try dsimp only); first | (with_reducible assumption) | ((repeat' (with_reducible apply And.intro)) <;> go_simp))) (fun hH5 => ?_)
                    clear hKc Kc hH1
                    clear y0 y1 y2 y3 gS
                    have HBL := Lib.hid (show W1.heap.size < ((W1.alloc (.cells #[.int .i64 f, .int .i64 cc, .int .i64 aa, .int .i64 nn] 39))).heap.size by simp)
                    obtain ⟨W2, hW2⟩ : ∃ z : World, Hid ((W1.alloc (.cells #[.int .i64 f, .int .i64 cc, .int .i64 aa, .int .i64 nn] 39)) = z) := ⟨_, rfl⟩
                    rw [hW2.out] at gN HBL HE' HX' ⊢
                    obtain ⟨BX, hBX⟩ : ∃ z : Nat, Hid (W1.heap.size = z) := ⟨_, rfl⟩
                    rw [hBX.out] at HBL HX' HNE' ⊢
                    have HBG := Lib.hid (show wr.heap.size ≤ BX by rw [← hBX.out]; exact (show G wr W1 by first | with_reducible exact gC | exact G.refl _).size)
                    clear gC
                    have gC := gN
                    clear gN
                    clear HE
                    have HE := HE'
                    clear HE'
                    have HX := HX'
                    clear HX'
                    have HNE := HNE'
                    clear HNE'
                    clear HBL HBG
                    refine wpAnyH_ready (rs := [4]) (by kernel_rfl) (by simp) ?_
                    refine (AllReadyH.cons (o := { dst := some 35, op := Go.Op.call { callee := Go.Callee.builtin Go.Builtin.append, args := #[Go.Operand.tmp 31, Go.Operand.tmp 34], argTypes := #[27, 27] }, type := 27, pos := "ref.go:72", after := #[{ on := 0, ground := Go.Ground.data }, { on := 3, ground := Go.Ground.data }], guard := none }) rfl (fun Kc hKc => ?_) AllReadyH.nil)
                    refine step_append_any rfl _ _ 27 rfl wr.heap.size 39 i0 (.agg #[.int .i64 0, .int .i64 0, .int .i64 0, .int .i64 0]) 4 32 Try.underlying27 hi0 hz0 hz1 hz2 rfl (by decide) BE 0 0 [] rfl (own_base (own_later HE.out (by (repeat' (first | (with_reducible exact G.refl _) | (with_reducible refine G.drewN ?_ _) | (with_reducible refine G.drew ?_) | (with_reducible refine G.alloc ?_ _))))) HBEG.out) (some ⟨gO, 0, none⟩) m cO (((⟨f', c', a', n'⟩ :: q : List Tu).reverse).flatMap tuE) rfl (fun h => by cases h) (by rw [flat_len tuE 4 tuE_len, List.length_reverse]; rw [show (⟨f', c', a', n'⟩ :: q : List Tu).length = m from hm.out]) (fun ad ha => by obtain rfl := Option.some.inj ha; exact later_news (gr2.trans (gC.trans (by (repeat' (first | (with_reducible exact G.refl _) | (with_reducible refine G.drewN ?_ _) | (with_reducible refine G.drew ?_) | (with_reducible refine G.alloc ?_ _)))))) HNW.out) (flat_one _) (by unfold maxLen; have := HML.out; omega) (by have := HML.out; omega) (by have := gC.size; simp [go_sem]; try omega) ?_
                    intro g8 c8 w8 hown8 hgrow8
                    simp only [Nat.zero_add] at hown8
                    try simp only [Nat.zero_add]
                    have gN : G wr w8 := Below.grown (B := wr.heap.size) (show G wr _ from gC.trans (by (repeat' (first | (with_reducible exact G.refl _) | (with_reducible refine G.drewN ?_ _) | (with_reducible refine G.drew ?_) | (with_reducible refine G.alloc ?_ _))))) hgrow8 (by have := gC.size; simp [go_sem]; try omega) (fun k hk => by obtain rfl := Option.some.inj hk; exact HBEG.out)
                    have HX' := Lib.hid (show (∀ j u, ([.int .i64 f, .int .i64 cc, .int .i64 aa, .int .i64 nn] : List Value)[j]? = some u → w8.cell? ((⟨BX, 0, none⟩ : Addr).add j) = some u) ∧ BX < w8.heap.size from ⟨keep_news hgrow8 (by have := HX.out.2; simp [go_sem]; try omega) (by simp only [ne_eq, Option.some.injEq]; exact HNE.out) (later_news (by (repeat' (first | (with_reducible exact G.refl _) | (with_reducible refine G.drewN ?_ _) | (with_reducible refine G.drew ?_) | (with_reducible refine G.alloc ?_ _)))) HX.out.1), Nat.lt_of_lt_of_le (by have := HX.out.2; simp [go_sem]; try omega) hgrow8.size⟩)
                    clear HX
                    have HX := HX'
                    clear HX'
                    obtain ⟨y0, y1, y2, y3⟩ := FX.out.later gN
                    dsimp only at y0 y1 y2 y3
                    refine hKc.out _ _ (by ((try dsimp only); first | (with_reducible assumption) | ((repeat' (with_reducible apply And.intro)) <;> go_simp))) (fun hH6 => ?_)
                    clear hKc Kc hH5
                    clear y0 y1 y2 y3
                    have H8 := Lib.hid hown8
                    have B8 := Lib.hid (own_ge hown8)
                    clear hown8 hgrow8 gC HE
                    have gC := gN
                    clear gN
                    refine wpAnyH_ready (rs := [10]) (by kernel_rfl) (by simp) ?_
                    refine (AllReadyH.cons (o := { dst := some 41, op := Go.Op.call { callee := Go.Callee.builtin Go.Builtin.append, args := #[Go.Operand.tmp 35, Go.Operand.tmp 40], argTypes := #[27, 27] }, type := 27, pos := "ref.go:72", after := #[{ on := 4, ground := Go.Ground.data }, { on := 9, ground := Go.Ground.data }, { on := 4, ground := Go.Ground.chain }], guard := none }) rfl (fun Kc hKc => ?_) AllReadyH.nil)
                    refine step_append_any rfl _ _ 27 rfl wr.heap.size 39 i0 (.agg #[.int .i64 0, .int .i64 0, .int .i64 0, .int .i64 0]) 4 32 Try.underlying27 hi0 hz0 hz1 hz2 rfl (by decide) g8 m c8 ([] ++ ((⟨f', c', a', n'⟩ :: q : List Tu).reverse).flatMap tuE) rfl (own_later H8.out (by (repeat' (first | (with_reducible exact G.refl _) | (with_reducible refine G.drewN ?_ _) | (with_reducible refine G.drew ?_) | (with_reducible refine G.alloc ?_ _))))) (some _) 1 1 [.int .i64 f, .int .i64 cc, .int .i64 aa, .int .i64 nn] rfl (fun h => by cases h) rfl (fun ad ha => by obtain rfl := Option.some.inj ha; exact later_news (by (repeat' (first | (with_reducible exact G.refl _) | (with_reducible refine G.drewN ?_ _) | (with_reducible refine G.drew ?_) | (with_reducible refine G.alloc ?_ _)))) HX.out.1) (flat_one [⟨f, cc, aa, nn⟩]) (by unfold maxLen; have := HML.out; omega) (by have := HML.out; omega) (by have := gC.size; simp [go_sem]; try omega) ?_
                    intro g9 c9 w9 hown9 hgrow9
                    have gN : G wr w9 := Below.grown (B := wr.heap.size) (show G wr _ from gC.trans (by (repeat' (first | (with_reducible exact G.refl _) | (with_reducible refine G.drewN ?_ _) | (with_reducible refine G.drew ?_) | (with_reducible refine G.alloc ?_ _))))) hgrow9 (by have := gC.size; simp [go_sem]; try omega) (fun k hk => by obtain rfl := Option.some.inj hk; exact B8.out)
                    obtain ⟨y0, y1, y2, y3⟩ := FX.out.later gN
                    dsimp only at y0 y1 y2 y3
                    refine hKc.out _ _ (by ((try dsimp only); first | (with_reducible assumption) | ((repeat' (with_reducible apply And.intro)) <;> go_simp))) (fun hH7 => ?_)
                    clear hKc Kc hH6
                    clear y0 y1 y2 y3
                    have H9 := Lib.hid hown9
                    have B9 := Lib.hid (own_ge hown9)
                    clear hown9 hgrow9 gC H8 HX
                    have gN9 := gN
                    clear gN
                    refine wpAnyH_take (i := 11) (oi := { dst := some 6, op := Go.Op.assign (Go.Operand.tmp 41), type := 27, pos := "ref.go:72", after := #[{ on := 10, ground := Go.Ground.data }, { on := 10, ground := Go.Ground.chain }, { on := 0, ground := Go.Ground.phase }, { on := 1, ground := Go.Ground.phase }, { on := 2, ground := Go.Ground.phase }, { on := 3, ground := Go.Ground.phase }, { on := 4, ground := Go.Ground.phase }, { on := 5, ground := Go.Ground.phase }, { on := 6, ground := Go.Ground.phase }, { on := 7, ground := Go.Ground.phase }, { on := 8, ground := Go.Ground.phase }, { on := 9, ground := Go.Ground.phase }, { on := 10, ground := Go.Ground.phase }], guard := none }) (v := ?_) rfl (by kernel_rfl) (by kernel_rfl) (by kernel_rfl) (fun _ _ _ h => h) (Or.inl ⟨by rfl, ?_⟩) (by assumption) ?_
                    rotate_left
                    · (intro w hSw; (try dsimp only at hSw); go_simp) <;> (with_reducible rfl)
                    simp only [Act.put, List.setIfInBounds_toArray, List.set_cons_zero, List.set_cons_succ]
                    refine wpAnyH_done (by kernel_rfl) ?_ _
                    have HN9 := Lib.hid (show ∀ ad, (if cO = m then some (⟨gO, 0, none⟩ : Addr) else some ⟨gO, m * 4, none⟩) = some ad → ∀ j u, (p.reverse.flatMap tuE)[j]? = some u → w9.cell? (ad.add j) = some u from fun ad ha j u hj => by
                      split at ha
                      · have hpl : p.length = 0 := by have := HPL.out; have := HCO.out; omega
                        rw [List.length_eq_zero_iff.1 hpl] at hj
                        simp at hj
                      · obtain rfl := Option.some.inj ha
                        exact later_news (gr2.trans gN9) HND.out j u hj)
                    go_wp2_with (at_builtin; refine append_all rfl _ _ 27 rfl wr.heap.size 39 i0 (.agg #[.int .i64 0, .int .i64 0, .int .i64 0, .int .i64 0]) 4 32 Try.underlying27 hi0 hz0 hz1 hz2 rfl (by decide) (.slice (some ⟨g9, 0, none⟩) (m + 1) c9) (m + 1) _ rfl (own_later H9.out (by (repeat' (first | (with_reducible exact G.refl _) | (with_reducible refine G.drewN ?_ _) | (with_reducible refine G.drew ?_) | (with_reducible refine G.alloc ?_ _))))) (if cO = m then some ⟨gO, 0, none⟩ else some ⟨gO, m * 4, none⟩) (i - m) (cO - m) (p.reverse.flatMap tuE) rfl (fun h => by split at h <;> cases h) (by rw [flat_len tuE 4 tuE_len, List.length_reverse]; have := HPL.out; omega) (fun ad ha => later_news (show G w9 _ by (repeat' (first | (with_reducible exact G.refl _) | (with_reducible refine G.drewN ?_ _) | (with_reducible refine G.drew ?_) | (with_reducible refine G.alloc ?_ _)))) (HN9.out ad ha)) (flat_one _) (by unfold maxLen; have := HML.out; omega) (by have := HML.out; omega) (by have := gN9.size; simp [go_sem]; try omega) ?_; intro v' w10 hown10 hgrow10 _)
                    all_goals
                      have gN10 : G wr w10 := Below.grown (B := wr.heap.size) (gN9.trans (show G w9 _ by (repeat' (first | (with_reducible exact G.refl _) | (with_reducible assumption) | (with_reducible refine G.drewN ?_ _) | (with_reducible refine G.drew ?_) | (with_reducible refine G.alloc ?_ _) | (with_reducible refine G.setCell ?_ (by first | (with_reducible exact Nat.le_refl _) | (simp; done) | (simp; omega) | omega) _) | (with_reducible refine G.trans ?_ (by assumption)))))) hgrow10 (by have := gN9.size; simp [go_sem]; try omega) (fun k hk => by have : g9 = k := (by simpa [Value.ownBlock] using hk); have := B9.out; omega)
                      have RN := Lib.hid (row_of (M := (rs (l.take (i + 1))).reverse) hown10 (by rw [HEND.out, List.length_append, List.length_cons, List.length_reverse, List.length_reverse, show (⟨f', c', a', n'⟩ :: q : List Tu).length = m from hm.out]; have := HPL.out; have := HQL.out; have := HIL.out; omega) (by rw [HEND.out]; simp [tuE]))
                      go_roundg (n - (i + 1))
                      case measure => have := HK.out; have := HI.out; omega
                      case rel => exact ⟨i + 1, v', rfl, by first | rfl | go_num, rfl, by have := HI.out; omega, Lib.hid (own_base RN.out HG2.out), gwr.trans gN10⟩
                · go_simp
                  have gN : G wr ((wr.alloc (.cells #[.int .i64 f, .int .i64 cc, .int .i64 aa, .int .i64 nn] 39)).drew) := (show G wr wr by first | with_reducible exact gC | exact G.refl _).trans (by (repeat' (first | (with_reducible exact G.refl _) | (with_reducible refine G.drewN ?_ _) | (with_reducible refine G.drew ?_) | (with_reducible refine G.alloc ?_ _))))
                  have gS : G wr ((wr.alloc (.cells #[.int .i64 f, .int .i64 cc, .int .i64 aa, .int .i64 nn] 39)).drew) := by (repeat' (first | (with_reducible exact G.refl _) | (with_reducible refine G.drewN ?_ _) | (with_reducible refine G.drew ?_) | (with_reducible refine G.alloc ?_ _)))
                  have HX' := Lib.hid (show (∀ j u, ([.int .i64 f, .int .i64 cc, .int .i64 aa, .int .i64 nn] : List Value)[j]? = some u → ((wr.alloc (.cells #[.int .i64 f, .int .i64 cc, .int .i64 aa, .int .i64 nn] 39)).drew).cell? ((⟨wr.heap.size, 0, none⟩ : Addr).add j) = some u) ∧ wr.heap.size < ((wr.alloc (.cells #[.int .i64 f, .int .i64 cc, .int .i64 aa, .int .i64 nn] 39)).drew).heap.size from ⟨later_news (show G (wr.alloc (.cells #[.int .i64 f, .int .i64 cc, .int .i64 aa, .int .i64 nn] 39)) ((wr.alloc (.cells #[.int .i64 f, .int .i64 cc, .int .i64 aa, .int .i64 nn] 39)).drew) by (repeat' (first | (with_reducible exact G.refl _) | (with_reducible refine G.drewN ?_ _) | (with_reducible refine G.drew ?_) | (with_reducible refine G.alloc ?_ _)))) (new_add _ _ [.int .i64 f, .int .i64 cc, .int .i64 aa, .int .i64 nn] 39 (by simp)), by simp⟩)
                  obtain ⟨y0, y1, y2, y3⟩ := FX.out.later gN
                  dsimp only at y0 y1 y2 y3
                  refine hKc.out _ _ (by ((try dsimp only); first | (with_reducible assumption) | ((repeat' (with_reducible apply And.intro)) <;> go_simp))) (fun hH8 => ?_)
                  clear hKc Kc hH0
                  clear y0 y1 y2 y3 gS
                  have HBL := Lib.hid (show wr.heap.size < ((wr.alloc (.cells #[.int .i64 f, .int .i64 cc, .int .i64 aa, .int .i64 nn] 39)).drew).heap.size by simp)
                  obtain ⟨W1, hW1⟩ : ∃ z : World, Hid ((wr.alloc (.cells #[.int .i64 f, .int .i64 cc, .int .i64 aa, .int .i64 nn] 39)).drew = z) := ⟨_, rfl⟩
                  rw [hW1.out] at gN HBL HX' ⊢
                  obtain ⟨BX, hBX⟩ : ∃ z : Nat, Hid (wr.heap.size = z) := ⟨_, rfl⟩
                  rw [hBX.out] at HBL HX' ⊢
                  have HBG := Lib.hid (show wr.heap.size ≤ BX by rw [← hBX.out]; exact (show G wr wr by first | with_reducible exact gC | exact G.refl _).size)
                  clear gC
                  have gC := gN
                  clear gN
                  have HX := HX'
                  clear HX'
                  clear HBL HBG
                  refine wpAnyH_ready (rs := [0]) (by kernel_rfl) (by simp) ?_
                  refine (AllReadyH.cons (o := { dst := some 31, op := Go.Op.buildSlice 27 0 #[], type := 27, pos := "ref.go:72", after := #[], guard := none }) rfl (fun Kc hKc => ?_) AllReadyH.nil)
                  go_simp
                  have gN : G wr ((W1.alloc (.cells #[] 39))) := (show G wr W1 by first | with_reducible exact gC | exact G.refl _).trans (by (repeat' (first | (with_reducible exact G.refl _) | (with_reducible refine G.drewN ?_ _) | (with_reducible refine G.drew ?_) | (with_reducible refine G.alloc ?_ _))))
                  have gS : G W1 ((W1.alloc (.cells #[] 39))) := by (repeat' (first | (with_reducible exact G.refl _) | (with_reducible refine G.drewN ?_ _) | (with_reducible refine G.drew ?_) | (with_reducible refine G.alloc ?_ _)))
                  have HE' := Lib.hid (own_later (row_new W1 W1.heap.size (by simp) 39 4) (show G _ ((W1.alloc (.cells #[] 39))) by (repeat' (first | (with_reducible exact G.refl _) | (with_reducible refine G.drewN ?_ _) | (with_reducible refine G.drew ?_) | (with_reducible refine G.alloc ?_ _)))))
                  have HX' := Lib.hid (show (∀ j u, ([.int .i64 f, .int .i64 cc, .int .i64 aa, .int .i64 nn] : List Value)[j]? = some u → ((W1.alloc (.cells #[] 39))).cell? ((⟨BX, 0, none⟩ : Addr).add j) = some u) ∧ BX < ((W1.alloc (.cells #[] 39))).heap.size from ⟨later_news gS HX.out.1, Nat.lt_of_lt_of_le HX.out.2 gS.size⟩)
                  have HNE' := Lib.hid (show BX ≠ W1.heap.size by have := HX.out.2; omega)
                  obtain ⟨y0, y1, y2, y3⟩ := FX.out.later gN
                  dsimp only at y0 y1 y2 y3
                  refine hKc.out _ _ (by ((try dsimp only); first | (with_reducible assumption) | ((repeat' (with_reducible apply And.intro)) <;> go_simp))) (fun hH9 => ?_)
                  clear hKc Kc hH8
                  clear y0 y1 y2 y3 gS
                  have HBL := Lib.hid (show W1.heap.size < ((W1.alloc (.cells #[] 39))).heap.size by simp)
                  obtain ⟨W2, hW2⟩ : ∃ z : World, Hid ((W1.alloc (.cells #[] 39)) = z) := ⟨_, rfl⟩
                  rw [hW2.out] at gN HBL HE' HX' ⊢
                  obtain ⟨BE, hBE⟩ : ∃ z : Nat, Hid (W1.heap.size = z) := ⟨_, rfl⟩
                  rw [hBE.out] at HBL HE' HNE' ⊢
                  have HBG := Lib.hid (show wr.heap.size ≤ BE by rw [← hBE.out]; exact (show G wr W1 by first | with_reducible exact gC | exact G.refl _).size)
                  clear gC
                  have gC := gN
                  clear gN
                  have HE := HE'
                  clear HE'
                  clear HX
                  have HX := HX'
                  clear HX'
                  have HNE := HNE'
                  clear HNE'
                  have HBE := HBL
                  have HBEG := HBG
                  clear HBL HBG
                  refine wpAnyH_ready (rs := [4]) (by kernel_rfl) (by simp) ?_
                  refine (AllReadyH.cons (o := { dst := some 35, op := Go.Op.call { callee := Go.Callee.builtin Go.Builtin.append, args := #[Go.Operand.tmp 31, Go.Operand.tmp 34], argTypes := #[27, 27] }, type := 27, pos := "ref.go:72", after := #[{ on := 0, ground := Go.Ground.data }, { on := 3, ground := Go.Ground.data }], guard := none }) rfl (fun Kc hKc => ?_) AllReadyH.nil)
                  refine step_append_any rfl _ _ 27 rfl wr.heap.size 39 i0 (.agg #[.int .i64 0, .int .i64 0, .int .i64 0, .int .i64 0]) 4 32 Try.underlying27 hi0 hz0 hz1 hz2 rfl (by decide) BE 0 0 [] rfl (own_base (own_later HE.out (by (repeat' (first | (with_reducible exact G.refl _) | (with_reducible refine G.drewN ?_ _) | (with_reducible refine G.drew ?_) | (with_reducible refine G.alloc ?_ _))))) HBEG.out) (some ⟨gO, 0, none⟩) m cO (((⟨f', c', a', n'⟩ :: q : List Tu).reverse).flatMap tuE) rfl (fun h => by cases h) (by rw [flat_len tuE 4 tuE_len, List.length_reverse]; rw [show (⟨f', c', a', n'⟩ :: q : List Tu).length = m from hm.out]) (fun ad ha => by obtain rfl := Option.some.inj ha; exact later_news (gr2.trans (gC.trans (by (repeat' (first | (with_reducible exact G.refl _) | (with_reducible refine G.drewN ?_ _) | (with_reducible refine G.drew ?_) | (with_reducible refine G.alloc ?_ _)))))) HNW.out) (flat_one _) (by unfold maxLen; have := HML.out; omega) (by have := HML.out; omega) (by have := gC.size; simp [go_sem]; try omega) ?_
                  intro g8 c8 w8 hown8 hgrow8
                  simp only [Nat.zero_add] at hown8
                  try simp only [Nat.zero_add]
                  have gN : G wr w8 := Below.grown (B := wr.heap.size) (show G wr _ from gC.trans (by (repeat' (first | (with_reducible exact G.refl _) | (with_reducible refine G.drewN ?_ _) | (with_reducible refine G.drew ?_) | (with_reducible refine G.alloc ?_ _))))) hgrow8 (by have := gC.size; simp [go_sem]; try omega) (fun k hk => by obtain rfl := Option.some.inj hk; exact HBEG.out)
                  have HX' := Lib.hid (show (∀ j u, ([.int .i64 f, .int .i64 cc, .int .i64 aa, .int .i64 nn] : List Value)[j]? = some u → w8.cell? ((⟨BX, 0, none⟩ : Addr).add j) = some u) ∧ BX < w8.heap.size from ⟨keep_news hgrow8 (by have := HX.out.2; simp [go_sem]; try omega) (by simp only [ne_eq, Option.some.injEq]; exact HNE.out) (later_news (by (repeat' (first | (with_reducible exact G.refl _) | (with_reducible refine G.drewN ?_ _) | (with_reducible refine G.drew ?_) | (with_reducible refine G.alloc ?_ _)))) HX.out.1), Nat.lt_of_lt_of_le (by have := HX.out.2; simp [go_sem]; try omega) hgrow8.size⟩)
                  clear HX
                  have HX := HX'
                  clear HX'
                  obtain ⟨y0, y1, y2, y3⟩ := FX.out.later gN
                  dsimp only at y0 y1 y2 y3
                  refine hKc.out _ _ (by ((try dsimp only); first | (with_reducible assumption) | ((repeat' (with_reducible apply And.intro)) <;> go_simp))) (fun hH10 => ?_)
                  clear hKc Kc hH9
                  clear y0 y1 y2 y3
                  have H8 := Lib.hid hown8
                  have B8 := Lib.hid (own_ge hown8)
                  clear hown8 hgrow8 gC HE
                  have gC := gN
                  clear gN
                  refine wpAnyH_ready (rs := [10]) (by kernel_rfl) (by simp) ?_
                  refine (AllReadyH.cons (o := { dst := some 41, op := Go.Op.call { callee := Go.Callee.builtin Go.Builtin.append, args := #[Go.Operand.tmp 35, Go.Operand.tmp 40], argTypes := #[27, 27] }, type := 27, pos := "ref.go:72", after := #[{ on := 4, ground := Go.Ground.data }, { on := 9, ground := Go.Ground.data }, { on := 4, ground := Go.Ground.chain }], guard := none }) rfl (fun Kc hKc => ?_) AllReadyH.nil)
                  refine step_append_any rfl _ _ 27 rfl wr.heap.size 39 i0 (.agg #[.int .i64 0, .int .i64 0, .int .i64 0, .int .i64 0]) 4 32 Try.underlying27 hi0 hz0 hz1 hz2 rfl (by decide) g8 m c8 ([] ++ ((⟨f', c', a', n'⟩ :: q : List Tu).reverse).flatMap tuE) rfl (own_later H8.out (by (repeat' (first | (with_reducible exact G.refl _) | (with_reducible refine G.drewN ?_ _) | (with_reducible refine G.drew ?_) | (with_reducible refine G.alloc ?_ _))))) (some _) 1 1 [.int .i64 f, .int .i64 cc, .int .i64 aa, .int .i64 nn] rfl (fun h => by cases h) rfl (fun ad ha => by obtain rfl := Option.some.inj ha; exact later_news (by (repeat' (first | (with_reducible exact G.refl _) | (with_reducible refine G.drewN ?_ _) | (with_reducible refine G.drew ?_) | (with_reducible refine G.alloc ?_ _)))) HX.out.1) (flat_one [⟨f, cc, aa, nn⟩]) (by unfold maxLen; have := HML.out; omega) (by have := HML.out; omega) (by have := gC.size; simp [go_sem]; try omega) ?_
                  intro g9 c9 w9 hown9 hgrow9
                  have gN : G wr w9 := Below.grown (B := wr.heap.size) (show G wr _ from gC.trans (by (repeat' (first | (with_reducible exact G.refl _) | (with_reducible refine G.drewN ?_ _) | (with_reducible refine G.drew ?_) | (with_reducible refine G.alloc ?_ _))))) hgrow9 (by have := gC.size; simp [go_sem]; try omega) (fun k hk => by obtain rfl := Option.some.inj hk; exact B8.out)
                  obtain ⟨y0, y1, y2, y3⟩ := FX.out.later gN
                  dsimp only at y0 y1 y2 y3
                  refine hKc.out _ _ (by ((try dsimp only); first | (with_reducible assumption) | ((repeat' (with_reducible apply And.intro)) <;> go_simp))) (fun hH11 => ?_)
                  clear hKc Kc hH10
                  clear y0 y1 y2 y3
                  have H9 := Lib.hid hown9
                  have B9 := Lib.hid (own_ge hown9)
                  clear hown9 hgrow9 gC H8 HX
                  have gN9 := gN
                  clear gN
                  refine wpAnyH_take (i := 11) (oi := { dst := some 6, op := Go.Op.assign (Go.Operand.tmp 41), type := 27, pos := "ref.go:72", after := #[{ on := 10, ground := Go.Ground.data }, { on := 10, ground := Go.Ground.chain }, { on := 0, ground := Go.Ground.phase }, { on := 1, ground := Go.Ground.phase }, { on := 2, ground := Go.Ground.phase }, { on := 3, ground := Go.Ground.phase }, { on := 4, ground := Go.Ground.phase }, { on := 5, ground := Go.Ground.phase }, { on := 6, ground := Go.Ground.phase }, { on := 7, ground := Go.Ground.phase }, { on := 8, ground := Go.Ground.phase }, { on := 9, ground := Go.Ground.phase }, { on := 10, ground := Go.Ground.phase }], guard := none }) (v := ?_) rfl (by kernel_rfl) (by kernel_rfl) (by kernel_rfl) (fun _ _ _ h => h) (Or.inl ⟨by rfl, ?_⟩) (by assumption) ?_
                  rotate_left
                  · (intro w hSw; (try dsimp only at hSw); go_simp) <;> (with_reducible rfl)
                  simp only [Act.put, List.setIfInBounds_toArray, List.set_cons_zero, List.set_cons_succ]
                  refine wpAnyH_done (by kernel_rfl) ?_ _
                  have HN9 := Lib.hid (show ∀ ad, (if cO = m then some (⟨gO, 0, none⟩ : Addr) else some ⟨gO, m * 4, none⟩) = some ad → ∀ j u, (p.reverse.flatMap tuE)[j]? = some u → w9.cell? (ad.add j) = some u from fun ad ha j u hj => by
                    split at ha
                    · have hpl : p.length = 0 := by have := HPL.out; have := HCO.out; omega
                      rw [List.length_eq_zero_iff.1 hpl] at hj
                      simp at hj
                    · obtain rfl := Option.some.inj ha
                      exact later_news (gr2.trans gN9) HND.out j u hj)
                  go_wp2_with (at_builtin; refine append_all rfl _ _ 27 rfl wr.heap.size 39 i0 (.agg #[.int .i64 0, .int .i64 0, .int .i64 0, .int .i64 0]) 4 32 Try.underlying27 hi0 hz0 hz1 hz2 rfl (by decide) (.slice (some ⟨g9, 0, none⟩) (m + 1) c9) (m + 1) _ rfl (own_later H9.out (by (repeat' (first | (with_reducible exact G.refl _) | (with_reducible refine G.drewN ?_ _) | (with_reducible refine G.drew ?_) | (with_reducible refine G.alloc ?_ _))))) (if cO = m then some ⟨gO, 0, none⟩ else some ⟨gO, m * 4, none⟩) (i - m) (cO - m) (p.reverse.flatMap tuE) rfl (fun h => by split at h <;> cases h) (by rw [flat_len tuE 4 tuE_len, List.length_reverse]; have := HPL.out; omega) (fun ad ha => later_news (show G w9 _ by (repeat' (first | (with_reducible exact G.refl _) | (with_reducible refine G.drewN ?_ _) | (with_reducible refine G.drew ?_) | (with_reducible refine G.alloc ?_ _)))) (HN9.out ad ha)) (flat_one _) (by unfold maxLen; have := HML.out; omega) (by have := HML.out; omega) (by have := gN9.size; simp [go_sem]; try omega) ?_; intro v' w10 hown10 hgrow10 _)
                  all_goals
                    have gN10 : G wr w10 := Below.grown (B := wr.heap.size) (gN9.trans (show G w9 _ by (repeat' (first | (with_reducible exact G.refl _) | (with_reducible assumption) | (with_reducible refine G.drewN ?_ _) | (with_reducible refine G.drew ?_) | (with_reducible refine G.alloc ?_ _) | (with_reducible refine G.setCell ?_ (by first | (with_reducible exact Nat.le_refl _) | (simp; done) | (simp; omega) | omega) _) | (with_reducible refine G.trans ?_ (by assumption)))))) hgrow10 (by have := gN9.size; simp [go_sem]; try omega) (fun k hk => by have : g9 = k := (by simpa [Value.ownBlock] using hk); have := B9.out; omega)
                    have RN := Lib.hid (row_of (M := (rs (l.take (i + 1))).reverse) hown10 (by rw [HEND.out, List.length_append, List.length_cons, List.length_reverse, List.length_reverse, show (⟨f', c', a', n'⟩ :: q : List Tu).length = m from hm.out]; have := HPL.out; have := HQL.out; have := HIL.out; omega) (by rw [HEND.out]; simp [tuE]))
                    go_roundg (n - (i + 1))
                    case measure => have := HK.out; have := HI.out; omega
                    case rel => exact ⟨i + 1, v', rfl, by first | rfl | go_num, rfl, by have := HI.out; omega, Lib.hid (own_base RN.out HG2.out), gwr.trans gN10⟩
    · have hii : i = n := by omega
      have hR2 := hR.out
      rw [hii, List.take_of_length_le (by have := HN.out; omega)] at hR2
      have HR2 := Lib.hid (show Row tuE 39 4 w.heap.size wr v (sortT l) from hR2)
      clear hR2 hR
      go_wp2_with fail
      go_ret
      exact ⟨_, rfl, HR2.out, gr⟩
end Go.Proofs.Ytabaiklagobimaa
