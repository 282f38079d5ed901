import Derived.Test.YtabaiklagobimaaR4
import Derived.Laws.AppendOwnNone
/-! Tuplets: copies, rows that are written; Insert. -/
namespace Go.Proofs.Ytabaiklagobimaa
open Go.RowKit
attribute [local go_sem] World.cell?_alloc_some

theorem World.grownBy.rf (w : World) (r : Option Nat) : w.grownBy w r := ⟨rfl, rfl, rfl, Nat.le_refl _, fun _ _ _ => rfl⟩
theorem append_all {P : Program} {w : World} {ops : Array Oper} {rest : List Oper} {o : Oper} {a : Act} {Q : Exit → Act → World → Prop} (hgd : o.guard = none) (s x : Operand) (t : TypeId)
    (ho : o.op = .call { callee := .builtin .append, args := #[s, x], argTypes := #[t, t] })
    (base : Nat) (e : TypeId) (i : TypeInfo) (z : Value) (size bytes : Nat) (ht : P.underlying t = some (.slice e)) (hi : P.info? e = some i) (hz : i.zero = some z)
    (hsize : i.size = size) (hby : i.bytes = bytes) (hzs : z.cells.size = size) (hsz : 0 < size)
    (v : Value) (n : Nat) (xs : List Value) (hs : a.eval s = v) (hown : w.ownsRow base e size v n xs)
    (A : Option Addr) (m c : Nat) (news : List Value) (hx : a.eval x = .slice A m c) (hA : A = none → m = 0 ∧ c = 0) (hl : news.length = m * size) (hnews : ∀ ad, A = some ad → ∀ j u, news[j]? = some u → w.cell? (ad.add j) = some u) (h1 : ∀ u ∈ news, u.oneCell' = true)
    (h63 : n + m ≤ maxLen) (hbytes : (n + m) * bytes ≤ 140737488355328) (hbase : base ≤ w.heap.size)
    (h : ∀ v' w', w'.ownsRow base e size v' (n + m) (xs ++ news) → w.grownBy w' v.ownBlock → (v' = .slice none 0 0 ↔ v = .slice none 0 0 ∧ m = 0) → wpList P ops Q rest (a.put o.dst v') w') : wpList P ops Q (o :: rest) a w := by
  cases A with
  | some ad => exact wpList_append_own w hgd s x t ho base e i z size bytes ht hi hz hsize hby hzs hsz v n xs hs hown ad m c news hx hl (hnews ad rfl) h1 h63 hbytes hbase h
  | none =>
    obtain ⟨rfl, rfl⟩ := hA rfl
    obtain rfl : news = [] := List.length_eq_zero_iff.1 (by simpa using hl)
    refine wpList_append_own_none hgd s x t ho base e i size ht hi v n xs hs hown hx (h v w (by simpa using hown) (World.grownBy.rf _ _) (by simp))
theorem tus_flat {w : World} {a : Option Addr} {l : List Tu} (h : TusAt w a l) : ∀ ad, a = some ad → ∀ j u, (l.flatMap tuE)[j]? = some u → w.cell? (ad.add j) = some u := by
  rintro ad rfl j u hj
  have hlt : j < l.length * 4 := by have := (List.getElem?_eq_some_iff.1 hj).1; rwa [flat_len tuE 4 tuE_len] at this
  rcases h with rfl | ⟨b, o, ha, hc⟩
  · simp at hlt
  obtain rfl := Option.some.inj ha
  have hi : j / 4 < l.length := by omega
  have hd : l[j / 4]? = some l[j / 4] := List.getElem?_eq_getElem hi
  have h4 := flat_at tuE 4 tuE_len l (j / 4) _ (j % 4) hd (Nat.mod_lt _ (by decide))
  have e0 : j / 4 * 4 + j % 4 = j := by omega
  rw [e0, hj] at h4
  have key : ∀ k, w.cell? ((⟨b, o, none⟩ : Addr).add k) = w.cell? ⟨b, o + k, none⟩ := fun k => by
    unfold Addr.add
    split
    · rename_i h; subst h; rfl
    · simp
  rw [key]
  obtain ⟨x0, x1, x2, x3⟩ := hc (j / 4) _ hd
  have hm : j % 4 < 4 := Nat.mod_lt _ (by decide)
  have ho : o + j = o + j / 4 * 4 + j % 4 := by omega
  rw [ho]
  generalize j % 4 = r at *
  rcases (by omega : r = 0 ∨ r = 1 ∨ r = 2 ∨ r = 3) with rfl | rfl | rfl | rfl <;> (rw [← h4.symm]; simp only [tuE, List.getElem?_cons_zero, List.getElem?_cons_succ] at h4 ⊢; first | exact x0 | exact x1 | exact x2 | exact x3)
theorem flat_one (l : List Tu) : ∀ u ∈ l.flatMap tuE, u.oneCell' = true := fun u hu => by
  obtain ⟨t, _, h⟩ := List.mem_flatMap.1 hu
  simp only [tuE, List.mem_cons, List.mem_nil_iff, or_false] at h
  rcases h with rfl | rfl | rfl | rfl <;> rfl
theorem nil_ne (ad : Addr) (n c : Nat) (w : World) : Sem.run Try.prog (binOp BinOp.eql 22 (Value.slice (some ad) n c) (Value.slice none 0 0)) w = .ok (.bool false) w := by rfl
theorem nil_eq (w : World) : Sem.run Try.prog (binOp BinOp.eql 22 (Value.slice none 0 0) (Value.slice none 0 0)) w = .ok (.bool true) w := by rfl
theorem row_new (w : World) (B : Nat) (hB : w.heap.size = B) (e : TypeId) (sz : Nat) : (w.alloc (.cells #[] e)).ownsRow B e sz (.slice (some ⟨B, 0, none⟩) 0 0) 0 [] := by
  subst hB
  refine ⟨by simp, .inr ⟨w.heap.size, 0, #[], rfl, Nat.le_refl _, ?_, Nat.le_refl _, Nat.zero_le _, by simp, by simp⟩⟩
  show (w.heap.push _)[w.heap.size]? = _
  simp

set_option maxRecDepth 100000 in
set_option maxHeartbeats 6400000 in
theorem Clone_any (a : Option Addr) (l : List Tu) (n c : Nat) (w : World) (hn : l.length = n) (hl : n ≤ 20) (h1 : TusAt w a l) (hz : a = none → c = 0) :
    Calls Try.prog 43 #[.slice a n c] w fun e w' => ∃ v, e = .returned v ∧ Row tuE 52 4 w.heap.size w' v l ∧ G w w' := by
  obtain ⟨i0, hi0, hz0, hz1, hz2⟩ := info_parts' tInfo
  cases a with
  | none =>
    have hl0 : l = [] := by
      rcases h1 with h | ⟨b, o, h, _⟩
      · exact h
      · cases h
    subst hl0
    obtain rfl : c = 0 := hz rfl
    subst hn
    dsimp only [List.length_nil]
    have hq := fun w => nil_eq w
    go_enter Try.func43, Try.ntmps43
    go_wp2_with fail
    go_ret
    exact ⟨_, rfl, Row.nil _, by (repeat' (first | (with_reducible exact G.refl _) | (with_reducible assumption) | (with_reducible refine G.drewN ?_ _) | (with_reducible refine G.drew ?_) | (with_reducible refine G.alloc ?_ _) | (with_reducible refine G.setCell ?_ (by first | (with_reducible exact Nat.le_refl _) | (simp; done) | (simp; omega) | omega) _) | (with_reducible refine G.trans ?_ (by assumption))))⟩
  | some ad =>
    have HF := Lib.hid (tus_flat h1)
    have HL := Lib.hid (And.intro hn hl)
    clear h1 hz hn hl
    go_enter Try.func43, Try.ntmps43
    have hq := fun w => nil_ne ad n c w
    obtain ⟨B, hB⟩ : ∃ z : Nat, w.heap.size = z := ⟨_, rfl⟩
    have HB := Lib.hid hB
    go_wp2_with (at_builtin; refine append_all rfl _ _ 22 rfl B 52 i0 (.agg #[.int .i64 0, .int .i64 0, .int .i64 0, .int .i64 0]) 4 32 Try.underlying22 hi0 hz0 hz1 hz2 rfl (by decide) (.slice (some ⟨B, 0, none⟩) 0 0) 0 [] rfl (row_new w B hB 52 4) (some ad) n c (l.flatMap tuE) rfl (fun h => by cases h) (by rw [flat_len tuE 4 tuE_len, HL.out.1]) (fun ad ha j u hj => ((show G w _ by (repeat' (first | (with_reducible exact G.refl _) | (with_reducible assumption) | (with_reducible refine G.drewN ?_ _) | (with_reducible refine G.drew ?_) | (with_reducible refine G.alloc ?_ _) | (with_reducible refine G.setCell ?_ (by first | (with_reducible exact Nat.le_refl _) | (simp; done) | (simp; omega) | omega) _) | (with_reducible refine G.trans ?_ (by assumption))))).at (HF.out ad ha j u hj))) (flat_one l) (by unfold maxLen; have := HL.out; omega) (by have := HL.out; omega) (by simp; omega) ?_; intro v w2 hown hgrow _; have gN : G w w2 := Below.grown (B := w.heap.size) (show G w _ by (repeat' (first | (with_reducible exact G.refl _) | (with_reducible assumption) | (with_reducible refine G.drewN ?_ _) | (with_reducible refine G.drew ?_) | (with_reducible refine G.alloc ?_ _) | (with_reducible refine G.setCell ?_ (by first | (with_reducible exact Nat.le_refl _) | (simp; done) | (simp; omega) | omega) _) | (with_reducible refine G.trans ?_ (by assumption))))) hgrow (by simp) (fun k hk => by simp [Value.ownBlock] at hk; omega); have RN : Row tuE 52 4 B w2 v l := (by unfold Row; rw [HL.out.1]; simpa using hown); clear hown; obtain ⟨pp, cq, hv', _⟩ := RN.len; subst hv')
    clear hq hB hgrow
    go_ret
    exact ⟨_, rfl, by rw [HB.out]; exact RN, gN⟩
end Go.Proofs.Ytabaiklagobimaa
