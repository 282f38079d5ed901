import Derived.Test.YtgepjpbdfjcaaaaDoorRw
import Derived.Test.YtgepjpbdfjcaaaaDoorLaid
/-! Spanners: spans that are written; slices of bytes as arguments. -/
namespace Go.Proofs.YtgepjpbdfjcaaaaDoor
open Go.ChangeShapes Go.WideShapes Go.ChangeAt Go.RowKit
attribute [local go_sem] World.cell?_alloc_some

/-- spans in a block that may be written -/
def SW (w : World) (g : Nat) (M : List Sp) : Prop := ∀ (i : Nat) (t : Sp), M[i]? = some t → ∀ (j : Nat) (u : Value), (spE t)[j]? = some u → w.cell? ⟨g, i * 9 + j, none⟩ = some u ∧ w.frozen? ⟨g, i * 9 + j, none⟩ = false
theorem SW.later {w w' : World} {g : Nat} {M : List Sp} (h : SW w g M) (k : G w w') : SW w' g M := fun i t hi j u hj => by
  obtain ⟨c, f⟩ := h i t hi j u hj
  exact ⟨k.at c, (k.frozen (cell_lt c)).trans f⟩
theorem SW.set {w : World} {g : Nat} {M : List Sp} {i j : Nat} {t t' : Sp} {u : Value} (h : SW w g M) (hi : M[i]? = some t) (hj : j < 9) (ht : spE t' = (spE t).set j u) : SW (w.setCell ⟨g, i * 9 + j, none⟩ u) g (M.set i t') := fun k x hk m v hm => by
  have hm4 : m < 9 := by have := (List.getElem?_eq_some_iff.1 hm).1; rwa [spE_len] at this
  have hil : i < M.length := (List.getElem?_eq_some_iff.1 hi).1
  by_cases e : i = k
  · subst e
    rw [List.getElem?_set_self hil] at hk
    obtain rfl := Option.some.inj hk
    rw [ht] at hm
    by_cases em : j = m
    · subst em
      rw [List.getElem?_set_self (by rw [spE_len]; exact hj)] at hm
      obtain rfl := Option.some.inj hm
      have hj2 : (spE t)[j]? = some ((spE t)[j]'(by rw [spE_len]; exact hj)) := List.getElem?_eq_getElem _
      obtain ⟨c, f⟩ := h i t hi j _ hj2
      exact ⟨World.cell?_setCell_same _ _ _ c, by simp [go_sem]; exact f⟩
    · rw [List.getElem?_set_ne em] at hm
      obtain ⟨c, f⟩ := h i t hi m v hm
      refine ⟨?_, by simp [go_sem]; exact f⟩
      rw [World.cell?_setCell_other _ _ _ _ (by simp only [ne_eq, Addr.mk.injEq]; omega)]
      exact c
  · rw [List.getElem?_set_ne e] at hk
    obtain ⟨c, f⟩ := h k x hk m v hm
    refine ⟨?_, by simp [go_sem]; exact f⟩
    rw [World.cell?_setCell_other _ _ _ _ (by simp only [ne_eq, Addr.mk.injEq]; omega)]
    exact c
theorem SW.setAll {w : World} {g : Nat} {M : List Sp} {i : Nat} {t : Sp} (h : SW w g M) (hi : M[i]? = some t) (t' : Sp) : SW (((((((((w.setCell ⟨g, i * 9, none⟩ (.int .i64 t'.k)).setCell ⟨g, i * 9 + 1, none⟩ (.int .i64 t'.f.m)).setCell ⟨g, i * 9 + 2, none⟩ (.int .i64 t'.f.a)).setCell ⟨g, i * 9 + 3, none⟩ (.int .i64 t'.f.s)).setCell ⟨g, i * 9 + 4, none⟩ (.int .i64 t'.f.v)).setCell ⟨g, i * 9 + 5, none⟩ (.int .i64 t'.t.m)).setCell ⟨g, i * 9 + 6, none⟩ (.int .i64 t'.t.a)).setCell ⟨g, i * 9 + 7, none⟩ (.int .i64 t'.t.s)).setCell ⟨g, i * 9 + 8, none⟩ (.int .i64 t'.t.v)) g (M.set i t') := by
  have hl := (List.getElem?_eq_some_iff.1 hi).1
  have h0 := h.set (j := 0) (t' := ⟨t'.k, ⟨t.f.m, t.f.a, t.f.s, t.f.v⟩, ⟨t.t.m, t.t.a, t.t.s, t.t.v⟩⟩) hi (by decide) (show _ = (spE t).set 0 (.int .i64 t'.k) from rfl)
  have h1 := h0.set (j := 1) (t' := ⟨t'.k, ⟨t'.f.m, t.f.a, t.f.s, t.f.v⟩, ⟨t.t.m, t.t.a, t.t.s, t.t.v⟩⟩) (List.getElem?_set_self hl) (by decide) (show _ = (spE ⟨t'.k, ⟨t.f.m, t.f.a, t.f.s, t.f.v⟩, ⟨t.t.m, t.t.a, t.t.s, t.t.v⟩⟩).set 1 (.int .i64 t'.f.m) from rfl)
  rw [List.set_set] at h1
  have h2 := h1.set (j := 2) (t' := ⟨t'.k, ⟨t'.f.m, t'.f.a, t.f.s, t.f.v⟩, ⟨t.t.m, t.t.a, t.t.s, t.t.v⟩⟩) (List.getElem?_set_self hl) (by decide) (show _ = (spE ⟨t'.k, ⟨t'.f.m, t.f.a, t.f.s, t.f.v⟩, ⟨t.t.m, t.t.a, t.t.s, t.t.v⟩⟩).set 2 (.int .i64 t'.f.a) from rfl)
  rw [List.set_set] at h2
  have h3 := h2.set (j := 3) (t' := ⟨t'.k, ⟨t'.f.m, t'.f.a, t'.f.s, t.f.v⟩, ⟨t.t.m, t.t.a, t.t.s, t.t.v⟩⟩) (List.getElem?_set_self hl) (by decide) (show _ = (spE ⟨t'.k, ⟨t'.f.m, t'.f.a, t.f.s, t.f.v⟩, ⟨t.t.m, t.t.a, t.t.s, t.t.v⟩⟩).set 3 (.int .i64 t'.f.s) from rfl)
  rw [List.set_set] at h3
  have h4 := h3.set (j := 4) (t' := ⟨t'.k, ⟨t'.f.m, t'.f.a, t'.f.s, t'.f.v⟩, ⟨t.t.m, t.t.a, t.t.s, t.t.v⟩⟩) (List.getElem?_set_self hl) (by decide) (show _ = (spE ⟨t'.k, ⟨t'.f.m, t'.f.a, t'.f.s, t.f.v⟩, ⟨t.t.m, t.t.a, t.t.s, t.t.v⟩⟩).set 4 (.int .i64 t'.f.v) from rfl)
  rw [List.set_set] at h4
  have h5 := h4.set (j := 5) (t' := ⟨t'.k, ⟨t'.f.m, t'.f.a, t'.f.s, t'.f.v⟩, ⟨t'.t.m, t.t.a, t.t.s, t.t.v⟩⟩) (List.getElem?_set_self hl) (by decide) (show _ = (spE ⟨t'.k, ⟨t'.f.m, t'.f.a, t'.f.s, t'.f.v⟩, ⟨t.t.m, t.t.a, t.t.s, t.t.v⟩⟩).set 5 (.int .i64 t'.t.m) from rfl)
  rw [List.set_set] at h5
  have h6 := h5.set (j := 6) (t' := ⟨t'.k, ⟨t'.f.m, t'.f.a, t'.f.s, t'.f.v⟩, ⟨t'.t.m, t'.t.a, t.t.s, t.t.v⟩⟩) (List.getElem?_set_self hl) (by decide) (show _ = (spE ⟨t'.k, ⟨t'.f.m, t'.f.a, t'.f.s, t'.f.v⟩, ⟨t'.t.m, t.t.a, t.t.s, t.t.v⟩⟩).set 6 (.int .i64 t'.t.a) from rfl)
  rw [List.set_set] at h6
  have h7 := h6.set (j := 7) (t' := ⟨t'.k, ⟨t'.f.m, t'.f.a, t'.f.s, t'.f.v⟩, ⟨t'.t.m, t'.t.a, t'.t.s, t.t.v⟩⟩) (List.getElem?_set_self hl) (by decide) (show _ = (spE ⟨t'.k, ⟨t'.f.m, t'.f.a, t'.f.s, t'.f.v⟩, ⟨t'.t.m, t'.t.a, t.t.s, t.t.v⟩⟩).set 7 (.int .i64 t'.t.s) from rfl)
  rw [List.set_set] at h7
  have h8 := h7.set (j := 8) (t' := ⟨t'.k, ⟨t'.f.m, t'.f.a, t'.f.s, t'.f.v⟩, ⟨t'.t.m, t'.t.a, t'.t.s, t'.t.v⟩⟩) (List.getElem?_set_self hl) (by decide) (show _ = (spE ⟨t'.k, ⟨t'.f.m, t'.f.a, t'.f.s, t'.f.v⟩, ⟨t'.t.m, t'.t.a, t'.t.s, t.t.v⟩⟩).set 8 (.int .i64 t'.t.v) from rfl)
  rw [List.set_set] at h8
  exact h8
theorem SW.sps {w : World} {g : Nat} {M : List Sp} (h : SW w g M) : SpsAt w (some ⟨g, 0, none⟩) M :=
  .inr ⟨g, 0, rfl, fun i t hi => by
    rw [Nat.zero_add]
    exact ⟨(h i t hi 0 _ rfl).1, (h i t hi 1 _ rfl).1, (h i t hi 2 _ rfl).1, (h i t hi 3 _ rfl).1, (h i t hi 4 _ rfl).1, (h i t hi 5 _ rfl).1, (h i t hi 6 _ rfl).1, (h i t hi 7 _ rfl).1, (h i t hi 8 _ rfl).1⟩⟩
/-- spans that may be written, where there are any -/
def SWA (B : Nat) (w : World) (a : Option Addr) (M : List Sp) : Prop := M = [] ∨ ∃ g, a = some ⟨g, 0, none⟩ ∧ B ≤ g ∧ SW w g M
theorem SWA.sps {B : Nat} {w : World} {a : Option Addr} {M : List Sp} (h : SWA B w a M) : SpsAt w a M := by
  rcases h with h | ⟨g, rfl, _, h⟩
  · exact .inl h
  · exact h.sps
theorem SWA.later {B : Nat} {w w' : World} {a : Option Addr} {M : List Sp} (h : SWA B w a M) (k : G w w') : SWA B w' a M := by
  rcases h with h | ⟨g, h1, h2, h⟩
  · exact .inl h
  · exact .inr ⟨g, h1, h2, h.later k⟩
theorem Row.swa {e : TypeId} {base : Nat} {w : World} {v : Value} {l : List Sp} (h : Row spE e 9 base w v l) : ∃ a c, v = .slice a l.length c ∧ l.length ≤ c ∧ SWA base w a l := by
  rcases h.cells spE_len with ⟨rfl, rfl⟩ | ⟨g, cap, rfl, hg, hc2, _, hc⟩
  · exact ⟨none, 0, rfl, Nat.le_refl _, .inl rfl⟩
  · exact ⟨_, cap, rfl, hc2, .inr ⟨g, rfl, hg, fun i t hi j u hj => hc i t hi j u hj⟩⟩
theorem ck_perm {l m : List Sp} (h : m.Perm l) (hl : l.length ≤ 4096) : (ckS l).2 = 0 ↔ (ckS m).2 = 0 := by
  rw [ckS_ok hl, ckS_ok (by rw [h.length_eq]; exact hl)]
  have hp := h.pairwise_iff (R := fun y x => ¬ Cnf y x) (fun {x y} k c => k c.symm)
  rw [hp]
  constructor
  · rintro ⟨a, b⟩; exact ⟨fun x hx => a x (h.mem_iff.1 hx), b⟩
  · rintro ⟨a, b⟩; exact ⟨fun x hx => a x (h.mem_iff.2 hx), b⟩
theorem swap_perm {M : List Sp} {i k : Nat} {x y : Sp} (hx : M[i]? = some x) (hy : M[k]? = some y) : ((M.set i y).set k x).Perm M := by
  obtain ⟨h1, rfl⟩ := List.getElem?_eq_some_iff.1 hx
  obtain ⟨h2, rfl⟩ := List.getElem?_eq_some_iff.1 hy
  exact List.set_set_perm h1 h2
theorem set_get {M : List Sp} {i k : Nat} {x y : Sp} (hx : M[i]? = some x) (hy : M[k]? = some y) : (M.set i y)[k]? = some y := by
  by_cases e : i = k
  · subst e; exact List.getElem?_set_self (List.getElem?_eq_some_iff.1 hx).1
  · rw [List.getElem?_set_ne e]; exact hy
theorem u8Cells : Tryd.prog.cellsOf 5 = 1 := by kernel_rfl
/-- the elements of a slice of bytes lie in a world -/
def U8sAt (w : World) (a : Option Addr) (l : List Int) : Prop :=
  l = [] ∨ ∃ b o, a = some ⟨b, o, none⟩ ∧ ∀ (i : Nat) (x : Int), l[i]? = some x → w.cell? ⟨b, o + i, none⟩ = some (.int .u8 x)
theorem U8sAt.later {w w' : World} {a : Option Addr} {l : List Int} (h : U8sAt w a l) (g : G w w') : U8sAt w' a l := by
  rcases h with h | ⟨b, o, h, k⟩
  · exact .inl h
  · exact .inr ⟨b, o, h, fun i x hx => g.at (k i x hx)⟩
theorem U8sAt.take {w : World} {a : Option Addr} {l : List Int} (h : U8sAt w a l) (k : Nat) : U8sAt w a (l.take k) := by
  rcases h with h | ⟨b, o, h, f⟩
  · exact .inl (by rw [h]; simp)
  · exact .inr ⟨b, o, h, fun i x hx => f i x (take_at hx)⟩
set_option maxRecDepth 100000 in
theorem open_u8sArg {H : Type} {enc : TypeId × Value → H} {W : World} {base b0 : Nat} {sp : Nat → Bool} {held : Bool} {v : Value} {d : DataW H} {p : List MemPlace}
    (hv : Value.okWide Tryd.prog W .any b0 47 v) (h : DataW.Trod enc Tryd.prog W base sp held 47 v d p) :
    ∃ a cap l, v = .slice a l.length cap ∧ l.length ≤ cap ∧ cap ≤ maxLen ∧ U8sAt W a l ∧ (∀ n ∈ l, (Lit.int .u8 n).wf = true) ∧ (a = none → cap = 0) := by
  obtain ⟨a0, len, cap, rfl⟩ := okWide_slice Tryd.underlying47 hv
  obtain ⟨fuel, hf⟩ := h
  rcases open_ints Tryd.underlying47 Tryd.underlying5 u8Cells hf with ⟨hcs, _⟩ | ⟨a, len', cap', zs, hcs, _, hl, hm, hz, _, hcell, hwz⟩
  · simp [Value.cells] at hcs
    obtain ⟨rfl, rfl, rfl⟩ := hcs
    exact ⟨none, 0, [], rfl, Nat.le_refl _, Nat.zero_le _, .inl rfl, by simp, fun _ => rfl⟩
  · simp [Value.cells] at hcs
    obtain ⟨rfl, rfl, rfl⟩ := hcs
    have hlz : len ≤ zs.length := by rw [hz]; split <;> omega
    refine ⟨some a, cap, zs.take len, by rw [List.length_take, Nat.min_eq_left hlz], by rw [List.length_take, Nat.min_eq_left hlz]; exact hl, hm, ?_, fun n hn => hwz n (List.mem_of_mem_take hn), by simp⟩
    by_cases h0 : len = 0
    · exact .inl (by rw [h0]; simp)
    · obtain ⟨b, o, s⟩ := a
      have hspot : s = none := by simpa [Addr.add] using World.cell?_spot (hcell 0 (by omega))
      subst hspot
      refine .inr ⟨b, o, rfl, fun i x hx => ?_⟩
      have hx2 := take_at hx
      obtain ⟨hi, hx3⟩ := List.getElem?_eq_some_iff.1 hx2
      have := hcell i hi
      rw [List.getD_eq_getElem?_getD, hx2] at this
      by_cases hi0 : i = 0
      · subst hi0; simpa [Addr.add] using this
      · simpa [Addr.add, hi0] using this
end Go.Proofs.YtgepjpbdfjcaaaaDoor
