import Derived.Test.YtnakfeamimeioaaDoorBase
import Derived.Lib.AppendIntMem
import Derived.Maps.AppendAt
import Derived.Deep.LoopGhost
/-! Lists of integers. -/
namespace Go.Proofs.YtnakfeamimeioaaDoor
open Go.RowKit
attribute [local go_sem] World.cell?_alloc_some

theorem grown_of_G {A C : World} (h : G A C) (row : Option Nat) : A.grownBy C row := ⟨h.os, h.tape, h.output, h.size, fun k hk _ => h.block k hk⟩
theorem own_later {W W' : World} {base : Nat} {e : TypeId} {size k : Nat} {v : Value} {xs : List Value} (h : W.ownsRow base e size v k xs) (g : G W W') : W'.ownsRow base e size v k xs := by
  refine h.kept (grown_of_G g none) ?_
  rcases h.2 with ⟨rfl, _⟩ | ⟨b, cap, cur, rfl, _, _, _⟩
  · exact .inl rfl
  · exact .inr (by simp [Value.ownBlock])
theorem own_base {W : World} {base base' : Nat} {e : TypeId} {size k : Nat} {v : Value} {xs : List Value} (h : W.ownsRow base e size v k xs) (hb : base' ≤ base) : W.ownsRow base' e size v k xs := by
  refine ⟨h.1, ?_⟩
  rcases h.2 with h | ⟨g, cap, cur, h1, h2, h3⟩
  · exact .inl h
  · exact .inr ⟨g, cap, cur, h1, Nat.le_trans hb h2, h3⟩

theorem iInfo : (Tryd.prog.info? 3).map (fun i => (i.zero, i.size, i.bytes)) = some (some (.int .i64 0), 1, 8) := by kernel_rfl
theorem info_parts' {P : Program} {t : TypeId} {z : Value} {s b : Nat} (h : (P.info? t).map (fun i => (i.zero, i.size, i.bytes)) = some (some z, s, b)) : ∃ i, P.info? t = some i ∧ i.zero = some z ∧ i.size = s ∧ i.bytes = b := by
  cases hi : P.info? t with
  | none => rw [hi] at h; cases h
  | some i =>
    rw [hi] at h
    simp only [Option.map_some, Option.some.injEq, Prod.mk.injEq] at h
    exact ⟨i, rfl, h.1, h.2.1, h.2.2⟩

def ints (l : List Int) : List Value := l.map (fun x => .int .i64 x)
theorem ints_append (l : List Int) (x : Int) : ints (l ++ [x]) = ints l ++ [.int .i64 x] := by simp [ints]
theorem ints_length (l : List Int) : (ints l).length = l.length := by simp [ints]
/-- a list in the making -/
def At (w wr : World) (v : Value) (l : List Int) : Prop := wr.ownsRow w.heap.size 3 1 v l.length (ints l) ∧ G w wr
theorem At.later {w a b : World} {v : Value} {l : List Int} (h : At w a v l) (g : G a b) : At w b v l := ⟨own_later h.1 g, h.2.trans g⟩
theorem At.base {w w1 wr : World} {v : Value} {l : List Int} (h : At w1 wr v l) (g : G w w1) : At w wr v l := ⟨own_base h.1 g.size, g.trans h.2⟩
theorem At.nil (w : World) : At w w (.slice none 0 0) [] := ⟨World.ownsRow_nil _ _ _ _, G.refl _⟩
theorem At.more {w W3 w1 : World} {v v' : Value} {l : List Int} {x : Int} {tmp : Obj} (h : At w W3 v l) (ho : w1.ownsRow w.heap.size 3 1 v' (l.length + 1) (ints l ++ [.int .i64 x])) (hg : (W3.alloc tmp).grownBy w1 v.ownBlock) : At w w1 v' (l ++ [x]) := by
  refine ⟨by rw [ints_append, List.length_append]; exact ho, ?_⟩
  refine Below.grown (h.2.alloc tmp) hg (by have := h.2.size; simp; omega) fun j ej => ?_
  rcases h.1.2 with ⟨rfl, _⟩ | ⟨g, cap, cur, rfl, hb, _, _⟩
  · simp [Value.ownBlock] at ej
  · obtain rfl : g = j := by simpa [Value.ownBlock] using ej
    exact hb
/-- where a list lies, and its cells -/
theorem At.cells {w W : World} {v : Value} {l : List Int} (h : At w W v l) :
    (v = .slice none 0 0 ∧ l = []) ∨ ∃ g cap, v = .slice (some ⟨g, 0, none⟩) l.length cap ∧ w.heap.size ≤ g ∧ l.length ≤ cap ∧ cap ≤ maxLen ∧ ∀ (i : Nat) (x : Int), l[i]? = some x → W.cell? ⟨g, i, none⟩ = some (.int .i64 x) := by
  rcases h.1.2 with ⟨h1, h2⟩ | ⟨g, cap, cur, h1, h2, h3, h4, h5, h6, h7⟩
  · exact .inl ⟨h1, List.length_eq_zero_iff.1 h2⟩
  · refine .inr ⟨g, cap, h1, h2, h4, h5, fun i x hx => ?_⟩
    have hj : (ints l)[i]? = some (.int .i64 x) := by simp [ints, hx]
    rw [← h7] at hj
    have hj2 : cur.toList[i]? = some (.int .i64 x) := by
      rw [List.getElem?_take] at hj
      split at hj
      · exact hj
      · simp at hj
    simp only [World.cell?, h3]
    simpa using hj2
theorem cell_one_new (W : World) (B : Nat) (a : Value) (t : TypeId) (hs : W.heap.size = B) : ∀ (j : Nat) (u : Value), [a][j]? = some u → (W.alloc (.cells #[a] t)).cell? ((⟨B, 0, none⟩ : Addr).add j) = some u := by
  intro j u hj
  subst hs
  match j, hj with
  | 0, h => simp at h; subst h; simp [Addr.add]
  | j + 1, h => simp at h

/-- a list that lies in a world -/
def Lies (w : World) (v : Value) (l : List Int) : Prop := (v = .slice none 0 0 ∧ l = []) ∨ ∃ g cap, v = .slice (some ⟨g, 0, none⟩) l.length cap ∧ l.length ≤ cap ∧ cap ≤ maxLen ∧ ∀ (i : Nat) (x : Int), l[i]? = some x → w.cell? ⟨g, i, none⟩ = some (.int .i64 x)
theorem At.lies {w W : World} {v : Value} {l : List Int} (h : At w W v l) : Lies W v l := by
  rcases h.cells with h | ⟨g, cap, h1, _, h2, h3, h4⟩
  · exact .inl h
  · exact .inr ⟨g, cap, h1, h2, h3, h4⟩
theorem Lies.later {w w' : World} {v : Value} {l : List Int} (h : Lies w v l) (g : G w w') : Lies w' v l := by
  rcases h with h | ⟨b, cap, h1, h2, h3, h4⟩
  · exact .inl h
  · exact .inr ⟨b, cap, h1, h2, h3, fun i x hx => g.at (h4 i x hx)⟩

set_option maxRecDepth 100000 in
set_option maxHeartbeats 4000000 in
theorem numbers_eq (a b : Value) (l : List Int) (w : World) (ha : Lies w a l) (hb : Lies w b l) (hl : l.length ≤ 100) : Calls Tryd.prog 21 #[a, b] w fun e w' => e = .returned (.bool true) ∧ G w w' := by
  rcases ha with ⟨rfl, rfl⟩ | ⟨g, cap, rfl, hcap, hcap2, hc⟩
  · obtain ⟨bp, bc, rfl⟩ : ∃ p c, b = .slice p 0 c := by
      rcases hb with ⟨rfl, _⟩ | ⟨g, cap, rfl, _⟩
      · exact ⟨_, _, rfl⟩
      · exact ⟨_, _, rfl⟩
    clear hb
    go_enter Tryd.func21, Tryd.ntmps21
    go_wp2_with fail
    go_loopw [5] (fun x wr => x = .int .i64 0 ∧ wr = w) (fun _ _ => 0)
    case atStart => exact ⟨rfl, rfl⟩
    case round =>
      obtain ⟨rfl, rfl⟩ := hrel
      go_wp2_with fail
      go_ret
      exact ⟨rfl, by (repeat' (first | (with_reducible exact G.refl _) | (with_reducible assumption) | (with_reducible refine G.drewN ?_ _) | (with_reducible refine G.drew ?_) | (with_reducible refine G.alloc ?_ _) | (with_reducible refine G.setCell ?_ (by first | (with_reducible exact Nat.le_refl _) | (simp; done) | (simp; omega) | omega) _) | (with_reducible refine G.trans ?_ (by assumption))))⟩
  · rcases hb with ⟨rfl, rfl⟩ | ⟨g2, cap2, rfl, hcap3, hcap4, hd⟩
    · go_enter Tryd.func21, Tryd.ntmps21
      go_wp2_with fail
      go_loopw [5] (fun x wr => x = .int .i64 0 ∧ wr = w) (fun _ _ => 0)
      case atStart => exact ⟨rfl, rfl⟩
      case round =>
        obtain ⟨rfl, rfl⟩ := hrel
        go_wp2_with fail
        go_ret
        exact ⟨rfl, by (repeat' (first | (with_reducible exact G.refl _) | (with_reducible assumption) | (with_reducible refine G.drewN ?_ _) | (with_reducible refine G.drew ?_) | (with_reducible refine G.alloc ?_ _) | (with_reducible refine G.setCell ?_ (by first | (with_reducible exact Nat.le_refl _) | (simp; done) | (simp; omega) | omega) _) | (with_reducible refine G.trans ?_ (by assumption))))⟩
    · have HC := Lib.hid hc
      have HD := Lib.hid hd
      clear hc hd
      go_enter Tryd.func21, Tryd.ntmps21
      go_wp2_with fail
      go_loopg [5] l.length (fun k x wr => ∃ i : Nat, x = .int .i64 i ∧ k = l.length - i ∧ i ≤ l.length ∧ wr.heap = w.heap ∧ G w wr)
      case atStart => exact ⟨0, rfl, by simp, by omega, rfl, G.refl _⟩
      case round =>
        obtain ⟨i, rfl, hgk, i1, hh, hG⟩ := hrel
        have HGK := Lib.hid hgk
        clear hgk
        by_cases hin : i < l.length
        · obtain ⟨p, hp⟩ : ∃ p, l[i]? = some p := ⟨l[i], List.getElem?_eq_getElem hin⟩
          have c0 := hG.at (HC.out i p hp)
          have d0 := hG.at (HD.out i p hp)
          have q := IntWalk.i64_in ((i : Int) + 1) (by omega)
          clear hp
          go_wp2_with fail
          go_region_held3 (fun w' => w'.cell? ⟨g, i, none⟩ = some (.int .i64 p) ∧ w'.cell? ⟨g2, i, none⟩ = some (.int .i64 p))
            (first | (with_reducible assumption) | ((try dsimp only); (repeat' (with_reducible apply And.intro)) <;> go_simp))
            (fail)
          go_wp2_with fail
          go_roundg (l.length - (i + 1))
          case measure => have := HGK.out; omega
          case rel => exact ⟨i + 1, by go_num, rfl, by omega, by first | exact hh | (simp; exact hh), by (repeat' (first | (with_reducible exact G.refl _) | (with_reducible assumption) | (with_reducible refine G.drewN ?_ _) | (with_reducible refine G.drew ?_) | (with_reducible refine G.alloc ?_ _) | (with_reducible refine G.setCell ?_ (by first | (with_reducible exact Nat.le_refl _) | (simp; done) | (simp; omega) | omega) _) | (with_reducible refine G.trans ?_ (by assumption))))⟩
        · obtain rfl : i = l.length := by omega
          go_wp2_with fail
          go_ret
          exact ⟨rfl, by (repeat' (first | (with_reducible exact G.refl _) | (with_reducible assumption) | (with_reducible refine G.drewN ?_ _) | (with_reducible refine G.drew ?_) | (with_reducible refine G.alloc ?_ _) | (with_reducible refine G.setCell ?_ (by first | (with_reducible exact Nat.le_refl _) | (simp; done) | (simp; omega) | omega) _) | (with_reducible refine G.trans ?_ (by assumption))))⟩
end Go.Proofs.YtnakfeamimeioaaDoor
