import Derived.Test.YtghlecocnflbnaaDoorKnown
import Derived.Test.YtghlecocnflbnaaDoorLaid
import Derived.Test.YtghlecocnflbnaaDoorA7
import Derived.Test.YtghlecocnflbnaaDoorR3
import Derived.Laws.AppendOwnNone
/-! Accidentals: notes with the key's alterations; a row of notes that is written. -/
namespace Go.Proofs.YtghlecocnflbnaaDoor
open Go.RowKit
attribute [local go_sem] World.cell?_alloc_some

def ky (f : Int) (n : Nt) : Nt := ⟨n.t, n.st, al f n.st, n.oc, n.hd, 0⟩
theorem al_ok (f s : Int) : AOk (al f s) := by
  unfold AOk al
  split
  · omega
  · split <;> omega
theorem ckN_ky {f b : Int} {n : Nt} (h : ckN b n = 0) : ckN b (ky f n) = 0 := by
  have h1 := ckN_ok.1 h
  exact ckN_ok.2 ⟨h1.1, h1.2.1, al_ok _ _, by unfold ky; simp, by unfold ky; simp⟩
theorem ckL_ky {f : Int} : ∀ (l : List Nt) (b : Int), ckL b l = 0 → ckL b (l.map (ky f)) = 0
  | [], _, h => h
  | n :: l, b, h => by
    unfold ckL at h
    by_cases h0 : ckN b n = 0
    · rw [if_pos h0] at h
      rw [List.map_cons, ckL, if_pos (ckN_ky h0)]
      exact ckL_ky l _ h
    · rw [if_neg h0] at h; exact absurd h h0
theorem ckA_ky {f : Int} {l : List Nt} (h : ckA f l = 0) : ckA f (l.map (ky f)) = 0 := by
  obtain ⟨h1, h2, _, _, h5⟩ := ckA_ok h
  unfold ckA
  rw [if_pos h1, if_pos (by rw [List.length_map]; exact h2)]
  exact ckL_ky l 0 h5
theorem disp_ky {f : Int} {l : List Nt} (h : ckA f l = 0) : disp f (l.map (ky f)) = (l.map (ky f)).map (fun _ => (0, false)) := by
  obtain ⟨_, _, h3, _, _⟩ := ckA_ok h
  have hk : ∀ n ∈ l.map (ky f), n.al = sg0 f (ix n.st n.oc) := by
    intro n hn
    obtain ⟨m, hm, rfl⟩ := List.mem_map.1 hn
    unfold sg0 ky
    dsimp only
    rw [ix_mod (h3 m hm).2.1]
  refine plain_key _ (fun n hn => ⟨hk n hn, ?_, key_noclash hk hn⟩)
  obtain ⟨m, _, rfl⟩ := List.mem_map.1 hn
  rfl
/-- notes in a block that may be written -/
def NW (w : World) (g : Nat) (l : List Nt) : Prop := ∀ (i : Nat) (n : Nt), l[i]? = some n → Nt6 w g (i * 6) n ∧ w.frozen? ⟨g, i * 6 + 2, none⟩ = false ∧ w.frozen? ⟨g, i * 6 + 5, none⟩ = false
theorem NW.later {w w' : World} {g : Nat} {l : List Nt} (h : NW w g l) (k : G w w') : NW w' g l := fun i n hn => by
  obtain ⟨h1, h2, h3⟩ := h i n hn
  exact ⟨h1.later k, (k.frozen (cell_lt h1.2.2.1)).trans h2, (k.frozen (cell_lt h1.2.2.2.2.2)).trans h3⟩
theorem NW.of {w : World} {g : Nat} {l : List Nt} {e : TypeId} {base cap : Nat} {v : Value} (h : Row ntE e 6 base w v l) (hv : v = .slice (some ⟨g, 0, none⟩) l.length cap) : NW w g l := by
  rcases h.cells ntE_len with ⟨rfl, _⟩ | ⟨g', cap', hv', _, _, _, hc⟩
  · cases hv
  · rw [hv'] at hv
    simp only [Value.slice.injEq, Option.some.injEq, Addr.mk.injEq, and_true, true_and] at hv
    obtain ⟨rfl, _⟩ := hv
    intro i n hn
    exact ⟨⟨(hc i n hn 0 _ rfl).1, (hc i n hn 1 _ rfl).1, (hc i n hn 2 _ rfl).1, (hc i n hn 3 _ rfl).1, (hc i n hn 4 _ rfl).1, (hc i n hn 5 _ rfl).1⟩, (hc i n hn 2 _ rfl).2, (hc i n hn 5 _ rfl).2⟩
theorem NW.set {w : World} {g : Nat} {l : List Nt} {i : Nat} {n : Nt} (h : NW w g l) (hi : l[i]? = some n) (A S : Int) :
    NW ((w.setCell ⟨g, i * 6 + 2, none⟩ (.int .i64 A)).setCell ⟨g, i * 6 + 5, none⟩ (.int .i64 S)) g (l.set i ⟨n.t, n.st, A, n.oc, n.hd, S⟩) := fun j x hx => by
  have fz : ∀ k, ((w.setCell ⟨g, i * 6 + 2, none⟩ (.int .i64 A)).setCell ⟨g, i * 6 + 5, none⟩ (.int .i64 S)).frozen? ⟨g, k, none⟩ = w.frozen? ⟨g, k, none⟩ := fun k => by simp [go_sem]
  have ot : ∀ k, k ≠ i * 6 + 2 → k ≠ i * 6 + 5 → ((w.setCell ⟨g, i * 6 + 2, none⟩ (.int .i64 A)).setCell ⟨g, i * 6 + 5, none⟩ (.int .i64 S)).cell? ⟨g, k, none⟩ = w.cell? ⟨g, k, none⟩ := fun k h2 h5 => by
    rw [World.cell?_setCell_other _ _ _ _ (by simp only [ne_eq, Addr.mk.injEq]; omega), World.cell?_setCell_other _ _ _ _ (by simp only [ne_eq, Addr.mk.injEq]; omega)]
  by_cases e : i = j
  · subst e
    have hlt : i < l.length := (List.getElem?_eq_some_iff.1 hi).1
    rw [List.getElem?_set_self hlt] at hx
    obtain rfl := Option.some.inj hx
    obtain ⟨⟨x0, x1, x2, x3, x4, x5⟩, f2, f5⟩ := h i n hi
    rw [fz, fz]
    have h5' : (w.setCell ⟨g, i * 6 + 2, none⟩ (.int .i64 A)).cell? ⟨g, i * 6 + 5, none⟩ = some (.int .i64 n.sh) := by
      rw [World.cell?_setCell_other _ _ _ _ (by simp only [ne_eq, Addr.mk.injEq]; omega)]; exact x5
    refine ⟨⟨?_, ?_, ?_, ?_, ?_, ?_⟩, f2, f5⟩
    · rw [ot _ (by omega) (by omega)]; exact x0
    · rw [ot _ (by omega) (by omega)]; exact x1
    · rw [World.cell?_setCell_other _ _ _ _ (by simp only [ne_eq, Addr.mk.injEq]; omega), World.cell?_setCell_same _ _ _ x2]
    · rw [ot _ (by omega) (by omega)]; exact x3
    · rw [ot _ (by omega) (by omega)]; exact x4
    · rw [World.cell?_setCell_same _ _ _ h5']
  · rw [List.getElem?_set_ne e] at hx
    obtain ⟨⟨x0, x1, x2, x3, x4, x5⟩, f2, f5⟩ := h j x hx
    rw [fz, fz]
    refine ⟨⟨?_, ?_, ?_, ?_, ?_, ?_⟩, f2, f5⟩
    · rw [ot _ (by omega) (by omega)]; exact x0
    · rw [ot _ (by omega) (by omega)]; exact x1
    · rw [ot _ (by omega) (by omega)]; exact x2
    · rw [ot _ (by omega) (by omega)]; exact x3
    · rw [ot _ (by omega) (by omega)]; exact x4
    · rw [ot _ (by omega) (by omega)]; exact x5
theorem NW.nts {w : World} {g : Nat} {l : List Nt} (h : NW w g l) : NtsAt w (some ⟨g, 0, none⟩) l :=
  .inr ⟨g, 0, rfl, fun i n hn => by rw [Nat.zero_add]; exact (h i n hn).1⟩
/-- the first notes with the key's alterations -/
def mx (f : Int) (l : List Nt) (i : Nat) : List Nt := (l.take i).map (ky f) ++ l.drop i
theorem mx_zero (f : Int) (l : List Nt) : mx f l 0 = l := by simp [mx]
theorem mx_all (f : Int) (l : List Nt) : mx f l l.length = l.map (ky f) := by simp [mx]
theorem mx_at {f : Int} {l : List Nt} {i : Nat} {n : Nt} (h : l[i]? = some n) : (mx f l i)[i]? = some n := by
  have hi := (List.getElem?_eq_some_iff.1 h).1
  unfold mx
  rw [List.getElem?_append_right (by rw [List.length_map, List.length_take]; omega), List.length_map, List.length_take, Nat.min_eq_left (by omega), Nat.sub_self, List.getElem?_drop]
  simpa using h
theorem mx_next {f : Int} {l : List Nt} {i : Nat} {n : Nt} (h : l[i]? = some n) : (mx f l i).set i (ky f n) = mx f l (i + 1) := by
  obtain ⟨hi, he⟩ := List.getElem?_eq_some_iff.1 h
  have hl : ((l.take i).map (ky f)).length = i := by rw [List.length_map, List.length_take]; omega
  unfold mx
  rw [List.set_append_right _ _ (by omega), hl, Nat.sub_self, List.drop_eq_getElem_cons hi, List.set_cons_zero, List.take_add_one, h]
  simp
theorem World.grownBy.rf (w : World) (r : Option Nat) : w.grownBy w r := ⟨rfl, rfl, rfl, Nat.le_refl _, fun _ _ _ => rfl⟩
theorem append_all {P : Program} {w : World} {ops : Array Oper} {rest : List Oper} {o : Oper} {a : Act} {Q : Exit → Act → World → Prop} (hgd : o.guard = none) (s x : Operand) (t : TypeId)
    (ho : o.op = .call { callee := .builtin .append, args := #[s, x], argTypes := #[t, t] })
    (base : Nat) (e : TypeId) (i : TypeInfo) (z : Value) (size bytes : Nat) (ht : P.underlying t = some (.slice e)) (hi : P.info? e = some i) (hz : i.zero = some z)
    (hsize : i.size = size) (hby : i.bytes = bytes) (hzs : z.cells.size = size) (hsz : 0 < size)
    (v : Value) (n : Nat) (xs : List Value) (hs : a.eval s = v) (hown : w.ownsRow base e size v n xs)
    (A : Option Addr) (m c : Nat) (news : List Value) (hx : a.eval x = .slice A m c) (hA : A = none → m = 0 ∧ c = 0) (hl : news.length = m * size) (hnews : ∀ ad, A = some ad → ∀ j u, news[j]? = some u → w.cell? (ad.add j) = some u) (h1 : ∀ u ∈ news, u.oneCell' = true)
    (h63 : n + m ≤ maxLen) (hbytes : (n + m) * bytes ≤ 140737488355328) (hbase : base ≤ w.heap.size)
    (h : ∀ v' w', w'.ownsRow base e size v' (n + m) (xs ++ news) → w.grownBy w' v.ownBlock → (v' = .slice none 0 0 ↔ v = .slice none 0 0 ∧ m = 0) → wpList P ops Q rest (a.put o.dst v') w') : wpList P ops Q (o :: rest) a w := by
  cases A with
  | some ad => exact wpList_append_own w hgd s x t ho base e i z size bytes ht hi hz hsize hby hzs hsz v n xs hs hown ad m c news hx hl (hnews ad rfl) h1 h63 hbytes hbase h
  | none =>
    obtain ⟨rfl, rfl⟩ := hA rfl
    obtain rfl : news = [] := List.length_eq_zero_iff.1 (by simpa using hl)
    refine wpList_append_own_none hgd s x t ho base e i size ht hi v n xs hs hown hx (h v w (by simpa using hown) (World.grownBy.rf _ _) (by simp))
theorem nnInfo : (Tryd.prog.info? 54).map (fun i => (i.zero, i.size, i.bytes)) = some (some (.agg #[.int .i64 0, .int .i64 0, .int .i64 0, .int .i64 0, .bool false, .int .i64 0]), 6, 48) := by kernel_rfl
theorem nts_flat {w : World} {a : Option Addr} {l : List Nt} (h : NtsAt w a l) : ∀ ad, a = some ad → ∀ j u, (l.flatMap ntE)[j]? = some u → w.cell? (ad.add j) = some u := by
  rintro ad rfl j u hj
  have hlt : j < l.length * 6 := by have := (List.getElem?_eq_some_iff.1 hj).1; rwa [flat_len ntE 6 ntE_len] at this
  rcases h with rfl | ⟨b, o, ha, hc⟩
  · simp at hlt
  obtain rfl := Option.some.inj ha
  have hi : j / 6 < l.length := by omega
  have hd : l[j / 6]? = some l[j / 6] := List.getElem?_eq_getElem hi
  have h6 := flat_at ntE 6 ntE_len l (j / 6) _ (j % 6) hd (Nat.mod_lt _ (by decide))
  have e0 : j / 6 * 6 + j % 6 = j := by omega
  rw [e0, hj] at h6
  have key : ∀ k, w.cell? ((⟨b, o, none⟩ : Addr).add k) = w.cell? ⟨b, o + k, none⟩ := fun k => by
    unfold Addr.add
    split
    · rename_i h; subst h; rfl
    · simp
  rw [key]
  obtain ⟨x0, x1, x2, x3, x4, x5⟩ := hc (j / 6) _ hd
  have hm : j % 6 < 6 := Nat.mod_lt _ (by decide)
  have ho : o + j = o + j / 6 * 6 + j % 6 := by omega
  rw [ho]
  generalize j % 6 = r at *
  rcases (by omega : r = 0 ∨ r = 1 ∨ r = 2 ∨ r = 3 ∨ r = 4 ∨ r = 5) with rfl | rfl | rfl | rfl | rfl | rfl <;> (rw [← h6.symm]; simp only [ntE, List.getElem?_cons_zero, List.getElem?_cons_succ] at h6 ⊢; first | exact x0 | exact x1 | exact x2 | exact x3 | exact x4 | exact x5)
end Go.Proofs.YtghlecocnflbnaaDoor
