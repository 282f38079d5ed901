import Derived.Test.YtdiokagnpiiijaaDoorNm
import Derived.Maps.OwnSet
import Derived.Lib.OthersKept
import Derived.Maps.RangeWalk
/-! The map from letters to steps, and what it answers. -/
namespace Go.Proofs.YtdiokagnpiiijaaDoor
open Go.RowKit Go.Maps
attribute [local go_sem] World.cell?_alloc_some

abbrev LT : ByteArray := ⟨#[67, 68, 69, 70, 71, 65, 66]⟩
def ltn (k : Int) : Int := if k = 0 then 67 else if k = 1 then 68 else if k = 2 then 69 else if k = 3 then 70 else if k = 4 then 71 else if k = 5 then 65 else 66
def MD : Nat → DataW Unit
  | 0 => .map []
  | k + 1 => (MD k).put (.int .u8 (ltn k)) (.lit (.int .i64 k))
theorem klaw : Keyed Tryd.prog 5 := int_keyed Tryd.underlying5
theorem ltn_run (k : Nat) (h : k < 7) (w : World) : (Instr.index 9 (.string LT) (.int .i64 k)).run Tryd.prog w = .ok (.int .u8 (ltn k)) w := by
  have e : k = 0 ∨ k = 1 ∨ k = 2 ∨ k = 3 ∨ k = 4 ∨ k = 5 ∨ k = 6 := by omega
  rcases e with rfl | rfl | rfl | rfl | rfl | rfl | rfl <;> simp [Instr.index, run_underlying Tryd.underlying9, asIntOf, go_sem, ltn] <;> rfl
theorem ltn_wf (k : Nat) (h : k < 7) : (Lit.int .u8 (ltn k)).wf = true := by
  have e : k = 0 ∨ k = 1 ∨ k = 2 ∨ k = 3 ∨ k = 4 ∨ k = 5 ∨ k = 6 := by omega
  rcases e with rfl | rfl | rfl | rfl | rfl | rfl | rfl <;> decide
theorem wf7 (k : Nat) (h : k < 7) : (Lit.int .i64 (k : Int)).wf = true := by
  have e : k = 0 ∨ k = 1 ∨ k = 2 ∨ k = 3 ∨ k = 4 ∨ k = 5 ∨ k = 6 := by omega
  rcases e with rfl | rfl | rfl | rfl | rfl | rfl | rfl <;> decide
theorem lt_ascii (k : Nat) (h : k < LT.size) : (LT[k]'h).toNat < 128 := by
  have e : k = 0 ∨ k = 1 ∨ k = 2 ∨ k = 3 ∨ k = 4 ∨ k = 5 ∨ k = 6 := by have : LT.size = 7 := rfl; omega
  rcases e with rfl | rfl | rfl | rfl | rfl | rfl | rfl <;> decide +revert
theorem grown_iter (w : World) (k : Nat) (s : ByteArray) (p : Nat) : w.grownBy (w.iterAt k s p) (some k) :=
  ⟨rfl, rfl, rfl, by rw [Lib.iterAt_size]; exact Nat.le_refl _, fun i _ hi => Lib.iterAt_other w k i s p (fun e => hi (by rw [e]))⟩

abbrev OM (w : World) (B k : Nat) : Prop := w.ownsMap Tryd.prog 5 (plainElem (H := Unit) Tryd.prog 3) B k (MD k)

set_option maxRecDepth 20000 in
set_option maxHeartbeats 3200000 in
theorem steps_any (w : World) : Calls Tryd.prog 48 #[] w fun e w' => ∃ B, e = .returned (.map (some B)) ∧ OM w' B 7 ∧ G w w' := by
  have hmm := @run_makeMap Tryd.prog
  go_enter Tryd.func48, Tryd.ntmps48
  go_wp2_with fail
  go_loopw [2] (fun _ wr => ∃ k : Nat, k ≤ 7 ∧ OM wr w.heap.size k ∧ wr.heap[w.heap.size + 1]? = some (.stringIter LT k) ∧ G w wr) (fun _ wr => 7 - wr.iterPos (w.heap.size + 1))
  case atStart =>
    refine ⟨0, by omega, (World.ownsMap_made w Tryd.prog 5 _).alloc _, ?_, ?_⟩
    · have k := World.iter_heap (w.alloc (.map #[] 0)) LT 0
      simpa using k
    · exact G.alloc (G.alloc (G.refl _) _) _
  case round =>
    obtain ⟨k, hk, hown, hit, hG⟩ := hrel
    have hpos := iterPos_of hit
    by_cases k7 : k = 7
    · subst k7
      have hnx := fun ty => Lib.run_next_end_at (P := Tryd.prog) _ (w.heap.size + 1) LT 7 ty hit (by decide)
      go_wp2_with fail
      go_ret
      exact ⟨_, rfl, hown, hG⟩
    · have k6 : k < 7 := by omega
      have hnx := fun ty => Lib.run_next_ascii_at (P := Tryd.prog) _ (w.heap.size + 1) LT k ty hit k6 (lt_ascii k k6)
      have hix := ltn_run k k6
      have hlt := (Array.getElem?_eq_some_iff.1 hit).1
      have hown2 := hown.kept (grown_iter _ (w.heap.size + 1) LT (k + 1)) (by simp)
      have hit2 := Lib.iterAt_heap _ (w.heap.size + 1) LT k (k + 1) hit
      have hG2 : G w _ := Lib.below_iterAt hG (k := w.heap.size + 1) (by omega) LT (k + 1)
      have hkey := keyOf_int_mk (P := Tryd.prog) Tryd.underlying5 (ltn_wf k k6)
      go_wp2_with (at_mapUpdate; refine wpList_mapUpdate_own _ rfl _ _ _ 85 rfl 5 3 klaw Tryd.underlying85 _ w.heap.size k _ rfl hown2 (by unfold maxLen; omega) _ _ _ rfl rfl hkey _ [] (plainElem_int Tryd.underlying3 (wf7 k k6)) ?_; intro w1 hown1 hgrow1; go_frame)
      go_roundw
      case rel =>
        refine ⟨k + 1, by omega, hown1, ?_, ?_⟩
        · rw [hgrow1.block (w.heap.size + 1) (by rw [Lib.iterAt_size]; exact hlt) (by simp)]; exact hit2
        · exact Below.grown hG2 hgrow1 hG2.size (fun j hj => by cases hj; exact Nat.le_refl _)
      case measure =>
        have h2 : w1.heap[w.heap.size + 1]? = some (.stringIter LT (k + 1)) := by
          rw [hgrow1.block (w.heap.size + 1) (by rw [Lib.iterAt_size]; exact hlt) (by simp)]; exact hit2
        rw [iterPos_of h2, hpos]; omega

/-- the step of a letter, and whether there is one -/
def cst (c : UInt8) : Int := if c = 67 then 0 else if c = 68 then 1 else if c = 69 then 2 else if c = 70 then 3 else if c = 71 then 4 else if c = 65 then 5 else if c = 66 then 6 else 0
def kno (c : UInt8) : Bool := decide (65 ≤ c.toNat ∧ c.toNat ≤ 71)
def gi : DataW Unit → Int
  | .lit (.int _ x) => x
  | _ => 0
theorem map_all : ∀ i : Fin 256, Maps.has (MD 7) (.int .u8 i.1) = kno (UInt8.ofNat i.1) ∧ gi ((MD 7).atKey (.int .u8 i.1) (.lit (.int .i64 0))) = cst (UInt8.ofNat i.1) := by decide +kernel
theorem wf_all : ∀ i : Fin 256, (Lit.int .u8 (i.1 : Int)).wf = true := by decide +kernel
theorem look_c {w : World} {B : Nat} (h : OM w B 7) (c : UInt8) : (Instr.lookup 85 (.map (some B)) (.int .u8 (c.toNat : Int)) true).run Tryd.prog w = .ok (.tuple #[.int .i64 (cst c), .bool (kno c)]) w := by
  have hw : (Lit.int .u8 (c.toNat : Int)).wf = true := wf_all ⟨c.toNat, c.toNat_lt⟩
  obtain ⟨v, ps, hrun, hv⟩ := h.look_ok klaw Tryd.underlying85 (z := .int .i64 0) (Tryd.zeroValue3 w) (plainElem_int Tryd.underlying3 (by decide)) (keyOf_int_mk Tryd.underlying5 hw)
  obtain ⟨x, rfl, hx, _⟩ := plainElem_int_inv Tryd.underlying3 hv
  simp only [Prod.mk.injEq] at hx
  have hm := map_all ⟨c.toNat, c.toNat_lt⟩
  dsimp only at hm
  rw [UInt8.ofNat_toNat] at hm
  rw [hrun, hm.1, ← hm.2, hx.1]
  rfl
end Go.Proofs.YtdiokagnpiiijaaDoor
