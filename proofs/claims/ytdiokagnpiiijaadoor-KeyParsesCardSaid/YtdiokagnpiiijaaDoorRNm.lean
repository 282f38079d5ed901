import Derived.Test.YtdiokagnpiiijaaDoorNm
import Derived.Maps.OwnSet
import Derived.BigRegion
/-! The reference's names of keys: a small map by its literal. -/
namespace Go.Proofs.YtdiokagnpiiijaaDoor
open Go.RowKit Go.Maps
attribute [local go_sem] World.cell?_alloc_some

theorem set_last (W : World) (o o' : Obj) : { W.alloc o with heap := (W.alloc o).heap.setIfInBounds W.heap.size o' } = W.alloc o' := by
  simp only [World.alloc]
  congr 1
  apply Array.ext'
  simp [Array.setIfInBounds, Array.toList_push]
theorem set_second (W : World) (o o' p : Obj) : { (W.alloc o).alloc p with heap := ((W.alloc o).alloc p).heap.setIfInBounds W.heap.size o' } = (W.alloc o').alloc p := by
  simp only [World.alloc]
  congr 1
  apply Array.ext'
  have h : W.heap.size < W.heap.size + 1 + 1 := by omega
  simp [Array.setIfInBounds, Array.toList_push, h]
theorem ins_at {W : World} {B : Nat} {es : Array MapEntry} {c : Nat} (hb : W.heap[B]? = some (.map es c)) (k : Bool) (x : ByteArray) (hn : Instr.findNow .bool (.bool k) es.toList 0 = some none) :
    (Instr.mapUpdate 82 (.map (some B)) (.bool k) (.string x)).run Tryd.prog W = .ok () { W with heap := W.heap.setIfInBounds B (.map (es.push ⟨.bool k, .string x, c⟩) (c + 1)) } := by
  have K := bool_keyed (P := Tryd.prog) Tryd.underlying4
  simp [Instr.mapUpdate, run_underlying Tryd.underlying82, MapKept.run_getObj_map hb, K.check W false (keyOf_bool_mk Tryd.underlying4 k), Instr.findKey, run_underlying Tryd.underlying4, hn, MapKept.run_setObj_map _ hb, Result.andThen]
theorem look_at {W : World} {B : Nat} {es : Array MapEntry} {c i : Nat} {v : Value} (hb : W.heap[B]? = some (.map es c)) (k : Bool) (hn : Instr.findNow .bool (.bool k) es.toList 0 = some (some (i, v))) :
    (Instr.lookup 82 (.map (some B)) (.bool k) false).run Tryd.prog W = .ok v W := by
  have K := bool_keyed (P := Tryd.prog) Tryd.underlying4
  simp [Instr.lookup, run_underlying Tryd.underlying82, MapKept.run_getObj_map hb, K.check W _ (keyOf_bool_mk Tryd.underlying4 k), Instr.findKey, run_underlying Tryd.underlying4, hn, Result.andThen]
theorem hlast (W : World) (o : Obj) : (W.alloc o).heap[W.heap.size]? = some o := by
  show (W.heap.push o)[W.heap.size]? = _
  simp
theorem hsecond (W : World) (o p : Obj) : ((W.alloc o).alloc p).heap[W.heap.size]? = some o := by
  show ((W.heap.push o).push p)[W.heap.size]? = _
  simp [Array.getElem?_push]
theorem insA (W : World) (B : Nat) (hB : W.heap.size = B) (es : Array MapEntry) (c : Nat) (k : Bool) (x : ByteArray) (hn : Instr.findNow .bool (.bool k) es.toList 0 = some none) :
    (Instr.mapUpdate 82 (.map (some B)) (.bool k) (.string x)).run Tryd.prog (W.alloc (.map es c)) = .ok () (W.alloc (.map (es.push ⟨.bool k, .string x, c⟩) (c + 1))) := by
  subst hB
  rw [ins_at (hlast _ _) k x hn, set_last]
theorem insB (W : World) (B : Nat) (hB : W.heap.size = B) (es : Array MapEntry) (c : Nat) (o : Obj) (k : Bool) (x : ByteArray) (hn : Instr.findNow .bool (.bool k) es.toList 0 = some none) :
    (Instr.mapUpdate 82 (.map (some B)) (.bool k) (.string x)).run Tryd.prog ((W.alloc (.map es c)).alloc o) = .ok () ((W.alloc (.map (es.push ⟨.bool k, .string x, c⟩) (c + 1))).alloc o) := by
  subst hB
  rw [ins_at (hsecond _ _ _) k x hn, set_second]
theorem lookA (W : World) (B : Nat) (hB : W.heap.size = B) (es : Array MapEntry) (c i : Nat) (v : Value) (k : Bool) (hn : Instr.findNow .bool (.bool k) es.toList 0 = some (some (i, v))) :
    (Instr.lookup 82 (.map (some B)) (.bool k) false).run Tryd.prog (W.alloc (.map es c)) = .ok v (W.alloc (.map es c)) := by
  subst hB
  exact look_at (hlast _ _) k hn
theorem lookB (W : World) (B : Nat) (hB : W.heap.size = B) (es : Array MapEntry) (c i : Nat) (v : Value) (o : Obj) (k : Bool) (hn : Instr.findNow .bool (.bool k) es.toList 0 = some (some (i, v))) :
    (Instr.lookup 82 (.map (some B)) (.bool k) false).run Tryd.prog ((W.alloc (.map es c)).alloc o) = .ok v ((W.alloc (.map es c)).alloc o) := by
  subst hB
  exact look_at (hsecond _ _ _) k hn
theorem insAd (W : World) (B : Nat) (hB : W.heap.size = B) (es : Array MapEntry) (c : Nat) (k : Bool) (x : ByteArray) (hn : Instr.findNow .bool (.bool k) es.toList 0 = some none) :
    (Instr.mapUpdate 82 (.map (some B)) (.bool k) (.string x)).run Tryd.prog (W.alloc (.map es c)).drew = .ok () (W.alloc (.map (es.push ⟨.bool k, .string x, c⟩) (c + 1))).drew :=
  insA W.drew B hB es c k x hn
theorem insBd (W : World) (B : Nat) (hB : W.heap.size = B) (es : Array MapEntry) (c : Nat) (o : Obj) (k : Bool) (x : ByteArray) (hn : Instr.findNow .bool (.bool k) es.toList 0 = some none) :
    (Instr.mapUpdate 82 (.map (some B)) (.bool k) (.string x)).run Tryd.prog ((W.alloc (.map es c)).alloc o).drew = .ok () ((W.alloc (.map (es.push ⟨.bool k, .string x, c⟩) (c + 1))).alloc o).drew :=
  insB W.drew B hB es c o k x hn
theorem lookAd (W : World) (B : Nat) (hB : W.heap.size = B) (es : Array MapEntry) (c i : Nat) (v : Value) (k : Bool) (hn : Instr.findNow .bool (.bool k) es.toList 0 = some (some (i, v))) :
    (Instr.lookup 82 (.map (some B)) (.bool k) false).run Tryd.prog (W.alloc (.map es c)).drew = .ok v (W.alloc (.map es c)).drew :=
  lookA W.drew B hB es c i v k hn
theorem lookBd (W : World) (B : Nat) (hB : W.heap.size = B) (es : Array MapEntry) (c i : Nat) (v : Value) (o : Obj) (k : Bool) (hn : Instr.findNow .bool (.bool k) es.toList 0 = some (some (i, v))) :
    (Instr.lookup 82 (.map (some B)) (.bool k) false).run Tryd.prog ((W.alloc (.map es c)).alloc o).drew = .ok v ((W.alloc (.map es c)).alloc o).drew :=
  lookB W.drew B hB es c i v o k hn
theorem pA_0 (W : World) (B : Nat) (hB : W.heap.size = B) : (Instr.mapUpdate 82 (.map (some B)) (.bool false) (.string ⟨#[32, 109, 97, 106, 111, 114]⟩)).run Tryd.prog (W.alloc (.map #[] 0)).drew = .ok () (W.alloc (.map #[⟨.bool false, .string ⟨#[32, 109, 97, 106, 111, 114]⟩, 0⟩] 1)).drew := by
  rw [insAd W B hB _ _ false _ (by rfl)]; rfl
theorem pB_0 (W : World) (B : Nat) (o : Obj) (hB : W.heap.size = B) : (Instr.mapUpdate 82 (.map (some B)) (.bool false) (.string ⟨#[32, 109, 97, 106, 111, 114]⟩)).run Tryd.prog ((W.alloc (.map #[] 0)).alloc o).drew = .ok () ((W.alloc (.map #[⟨.bool false, .string ⟨#[32, 109, 97, 106, 111, 114]⟩, 0⟩] 1)).alloc o).drew := by
  rw [insBd W B hB _ _ o false _ (by rfl)]; rfl
theorem pA_1 (W : World) (B : Nat) (hB : W.heap.size = B) : (Instr.mapUpdate 82 (.map (some B)) (.bool true) (.string ⟨#[32, 109, 105, 110, 111, 114]⟩)).run Tryd.prog (W.alloc (.map #[] 0)).drew = .ok () (W.alloc (.map #[⟨.bool true, .string ⟨#[32, 109, 105, 110, 111, 114]⟩, 0⟩] 1)).drew := by
  rw [insAd W B hB _ _ true _ (by rfl)]; rfl
theorem pB_1 (W : World) (B : Nat) (o : Obj) (hB : W.heap.size = B) : (Instr.mapUpdate 82 (.map (some B)) (.bool true) (.string ⟨#[32, 109, 105, 110, 111, 114]⟩)).run Tryd.prog ((W.alloc (.map #[] 0)).alloc o).drew = .ok () ((W.alloc (.map #[⟨.bool true, .string ⟨#[32, 109, 105, 110, 111, 114]⟩, 0⟩] 1)).alloc o).drew := by
  rw [insBd W B hB _ _ o true _ (by rfl)]; rfl
theorem pA1_0 (W : World) (B : Nat) (hB : W.heap.size = B) : (Instr.mapUpdate 82 (.map (some B)) (.bool false) (.string ⟨#[32, 109, 97, 106, 111, 114]⟩)).run Tryd.prog (W.alloc (.map #[⟨.bool true, .string ⟨#[32, 109, 105, 110, 111, 114]⟩, 0⟩] 1)).drew = .ok () (W.alloc (.map #[⟨.bool true, .string ⟨#[32, 109, 105, 110, 111, 114]⟩, 0⟩, ⟨.bool false, .string ⟨#[32, 109, 97, 106, 111, 114]⟩, 1⟩] 2)).drew := by
  rw [insAd W B hB _ _ false _ (by rfl)]; rfl
theorem pB1_0 (W : World) (B : Nat) (o : Obj) (hB : W.heap.size = B) : (Instr.mapUpdate 82 (.map (some B)) (.bool false) (.string ⟨#[32, 109, 97, 106, 111, 114]⟩)).run Tryd.prog ((W.alloc (.map #[⟨.bool true, .string ⟨#[32, 109, 105, 110, 111, 114]⟩, 0⟩] 1)).alloc o).drew = .ok () ((W.alloc (.map #[⟨.bool true, .string ⟨#[32, 109, 105, 110, 111, 114]⟩, 0⟩, ⟨.bool false, .string ⟨#[32, 109, 97, 106, 111, 114]⟩, 1⟩] 2)).alloc o).drew := by
  rw [insBd W B hB _ _ o false _ (by rfl)]; rfl
theorem pA0_1 (W : World) (B : Nat) (hB : W.heap.size = B) : (Instr.mapUpdate 82 (.map (some B)) (.bool true) (.string ⟨#[32, 109, 105, 110, 111, 114]⟩)).run Tryd.prog (W.alloc (.map #[⟨.bool false, .string ⟨#[32, 109, 97, 106, 111, 114]⟩, 0⟩] 1)).drew = .ok () (W.alloc (.map #[⟨.bool false, .string ⟨#[32, 109, 97, 106, 111, 114]⟩, 0⟩, ⟨.bool true, .string ⟨#[32, 109, 105, 110, 111, 114]⟩, 1⟩] 2)).drew := by
  rw [insAd W B hB _ _ true _ (by rfl)]; rfl
theorem pB0_1 (W : World) (B : Nat) (o : Obj) (hB : W.heap.size = B) : (Instr.mapUpdate 82 (.map (some B)) (.bool true) (.string ⟨#[32, 109, 105, 110, 111, 114]⟩)).run Tryd.prog ((W.alloc (.map #[⟨.bool false, .string ⟨#[32, 109, 97, 106, 111, 114]⟩, 0⟩] 1)).alloc o).drew = .ok () ((W.alloc (.map #[⟨.bool false, .string ⟨#[32, 109, 97, 106, 111, 114]⟩, 0⟩, ⟨.bool true, .string ⟨#[32, 109, 105, 110, 111, 114]⟩, 1⟩] 2)).alloc o).drew := by
  rw [insBd W B hB _ _ o true _ (by rfl)]; rfl
theorem qA01_0 (W : World) (B : Nat) (hB : W.heap.size = B) : (Instr.lookup 82 (.map (some B)) (.bool false) false).run Tryd.prog (W.alloc (.map #[⟨.bool false, .string ⟨#[32, 109, 97, 106, 111, 114]⟩, 0⟩, ⟨.bool true, .string ⟨#[32, 109, 105, 110, 111, 114]⟩, 1⟩] 2)).drew = .ok (.string ⟨#[32, 109, 97, 106, 111, 114]⟩) (W.alloc (.map #[⟨.bool false, .string ⟨#[32, 109, 97, 106, 111, 114]⟩, 0⟩, ⟨.bool true, .string ⟨#[32, 109, 105, 110, 111, 114]⟩, 1⟩] 2)).drew := by
  rw [lookAd W B hB _ _ _ (.string ⟨#[32, 109, 97, 106, 111, 114]⟩) false (by rfl)]
theorem qB01_0 (W : World) (B : Nat) (o : Obj) (hB : W.heap.size = B) : (Instr.lookup 82 (.map (some B)) (.bool false) false).run Tryd.prog ((W.alloc (.map #[⟨.bool false, .string ⟨#[32, 109, 97, 106, 111, 114]⟩, 0⟩, ⟨.bool true, .string ⟨#[32, 109, 105, 110, 111, 114]⟩, 1⟩] 2)).alloc o).drew = .ok (.string ⟨#[32, 109, 97, 106, 111, 114]⟩) ((W.alloc (.map #[⟨.bool false, .string ⟨#[32, 109, 97, 106, 111, 114]⟩, 0⟩, ⟨.bool true, .string ⟨#[32, 109, 105, 110, 111, 114]⟩, 1⟩] 2)).alloc o).drew := by
  rw [lookBd W B hB _ _ _ (.string ⟨#[32, 109, 97, 106, 111, 114]⟩) o false (by rfl)]
theorem qA01_1 (W : World) (B : Nat) (hB : W.heap.size = B) : (Instr.lookup 82 (.map (some B)) (.bool true) false).run Tryd.prog (W.alloc (.map #[⟨.bool false, .string ⟨#[32, 109, 97, 106, 111, 114]⟩, 0⟩, ⟨.bool true, .string ⟨#[32, 109, 105, 110, 111, 114]⟩, 1⟩] 2)).drew = .ok (.string ⟨#[32, 109, 105, 110, 111, 114]⟩) (W.alloc (.map #[⟨.bool false, .string ⟨#[32, 109, 97, 106, 111, 114]⟩, 0⟩, ⟨.bool true, .string ⟨#[32, 109, 105, 110, 111, 114]⟩, 1⟩] 2)).drew := by
  rw [lookAd W B hB _ _ _ (.string ⟨#[32, 109, 105, 110, 111, 114]⟩) true (by rfl)]
theorem qB01_1 (W : World) (B : Nat) (o : Obj) (hB : W.heap.size = B) : (Instr.lookup 82 (.map (some B)) (.bool true) false).run Tryd.prog ((W.alloc (.map #[⟨.bool false, .string ⟨#[32, 109, 97, 106, 111, 114]⟩, 0⟩, ⟨.bool true, .string ⟨#[32, 109, 105, 110, 111, 114]⟩, 1⟩] 2)).alloc o).drew = .ok (.string ⟨#[32, 109, 105, 110, 111, 114]⟩) ((W.alloc (.map #[⟨.bool false, .string ⟨#[32, 109, 97, 106, 111, 114]⟩, 0⟩, ⟨.bool true, .string ⟨#[32, 109, 105, 110, 111, 114]⟩, 1⟩] 2)).alloc o).drew := by
  rw [lookBd W B hB _ _ _ (.string ⟨#[32, 109, 105, 110, 111, 114]⟩) o true (by rfl)]
theorem qA10_0 (W : World) (B : Nat) (hB : W.heap.size = B) : (Instr.lookup 82 (.map (some B)) (.bool false) false).run Tryd.prog (W.alloc (.map #[⟨.bool true, .string ⟨#[32, 109, 105, 110, 111, 114]⟩, 0⟩, ⟨.bool false, .string ⟨#[32, 109, 97, 106, 111, 114]⟩, 1⟩] 2)).drew = .ok (.string ⟨#[32, 109, 97, 106, 111, 114]⟩) (W.alloc (.map #[⟨.bool true, .string ⟨#[32, 109, 105, 110, 111, 114]⟩, 0⟩, ⟨.bool false, .string ⟨#[32, 109, 97, 106, 111, 114]⟩, 1⟩] 2)).drew := by
  rw [lookAd W B hB _ _ _ (.string ⟨#[32, 109, 97, 106, 111, 114]⟩) false (by rfl)]
theorem qB10_0 (W : World) (B : Nat) (o : Obj) (hB : W.heap.size = B) : (Instr.lookup 82 (.map (some B)) (.bool false) false).run Tryd.prog ((W.alloc (.map #[⟨.bool true, .string ⟨#[32, 109, 105, 110, 111, 114]⟩, 0⟩, ⟨.bool false, .string ⟨#[32, 109, 97, 106, 111, 114]⟩, 1⟩] 2)).alloc o).drew = .ok (.string ⟨#[32, 109, 97, 106, 111, 114]⟩) ((W.alloc (.map #[⟨.bool true, .string ⟨#[32, 109, 105, 110, 111, 114]⟩, 0⟩, ⟨.bool false, .string ⟨#[32, 109, 97, 106, 111, 114]⟩, 1⟩] 2)).alloc o).drew := by
  rw [lookBd W B hB _ _ _ (.string ⟨#[32, 109, 97, 106, 111, 114]⟩) o false (by rfl)]
theorem qA10_1 (W : World) (B : Nat) (hB : W.heap.size = B) : (Instr.lookup 82 (.map (some B)) (.bool true) false).run Tryd.prog (W.alloc (.map #[⟨.bool true, .string ⟨#[32, 109, 105, 110, 111, 114]⟩, 0⟩, ⟨.bool false, .string ⟨#[32, 109, 97, 106, 111, 114]⟩, 1⟩] 2)).drew = .ok (.string ⟨#[32, 109, 105, 110, 111, 114]⟩) (W.alloc (.map #[⟨.bool true, .string ⟨#[32, 109, 105, 110, 111, 114]⟩, 0⟩, ⟨.bool false, .string ⟨#[32, 109, 97, 106, 111, 114]⟩, 1⟩] 2)).drew := by
  rw [lookAd W B hB _ _ _ (.string ⟨#[32, 109, 105, 110, 111, 114]⟩) true (by rfl)]
theorem qB10_1 (W : World) (B : Nat) (o : Obj) (hB : W.heap.size = B) : (Instr.lookup 82 (.map (some B)) (.bool true) false).run Tryd.prog ((W.alloc (.map #[⟨.bool true, .string ⟨#[32, 109, 105, 110, 111, 114]⟩, 0⟩, ⟨.bool false, .string ⟨#[32, 109, 97, 106, 111, 114]⟩, 1⟩] 2)).alloc o).drew = .ok (.string ⟨#[32, 109, 105, 110, 111, 114]⟩) ((W.alloc (.map #[⟨.bool true, .string ⟨#[32, 109, 105, 110, 111, 114]⟩, 0⟩, ⟨.bool false, .string ⟨#[32, 109, 97, 106, 111, 114]⟩, 1⟩] 2)).alloc o).drew := by
  rw [lookBd W B hB _ _ _ (.string ⟨#[32, 109, 105, 110, 111, 114]⟩) o true (by rfl)]
attribute [local go_sem] run_makeMap pA_0 pB_0 pA_1 pB_1 pA1_0 pB1_0 pA0_1 pB0_1 qA01_0 qB01_0 qA01_1 qB01_1 qA10_0 qB10_0 qA10_1 qB10_1
theorem ret_str {a b : ByteArray} (h : a = b) : Ending.returned (.string a) = .returned (.string b) := by rw [h]

set_option maxRecDepth 20000 in
set_option maxHeartbeats 6400000 in
theorem rName_any (f : Int) (m : Bool) (w : World) (h : Sg f) :
    Calls Tryd.prog 30 #[.int .i64 f, .bool m] w fun e w' => e = .returned (.string ⟨(kn (tS (f + mi m)) (tA (f + mi m)) m).toArray⟩) ∧ G w w' := by
  have HS := Lib.hid h
  have tb := tS_bd (f + mi m)
  have ab : -1 ≤ tA (f + mi m) ∧ tA (f + mi m) ≤ 1 := by
    have := mi_bd m
    obtain ⟨f0, f1⟩ := h
    exact tA_bd (by omega) (by omega)
  obtain ⟨s, hs⟩ : ∃ z : Int, Hid (z = tS (f + mi m)) := ⟨_, rfl⟩
  obtain ⟨a, ha⟩ : ∃ z : Int, Hid (z = tA (f + mi m)) := ⟨_, rfl⟩
  rw [← hs.out] at tb
  rw [← ha.out] at ab
  obtain ⟨s0, s1⟩ := tb
  rw [← hs.out, ← ha.out]
  clear h
  have q1 := IntWalk.i64_in (s + 1) (by omega)
  obtain ⟨Lt, hLt⟩ : ∃ z : ByteArray, Hid (z = ⟨#[ltr s]⟩) := ⟨_, rfl⟩
  have hLs : Lt.size = 1 := by rw [hLt.out]; rfl
  have hsl : ∀ wz, (Instr.sliceAt 9 (.string ⟨#[67, 68, 69, 70, 71, 65, 66]⟩) (some (.int .i64 s)) (some (.int .i64 (s + 1))) none).run Tryd.prog wz = .ok (.string Lt) wz := by
    rw [hLt.out]; exact letter_run s s0 s1
  have e1 : ByteArray.size ⟨#[98]⟩ = 1 := rfl
  have e0 : ByteArray.size ⟨#[]⟩ = 0 := rfl
  have e3 : ByteArray.size ⟨#[35]⟩ = 1 := rfl
  have e5 : ByteArray.size ⟨#[32, 109, 105, 110, 111, 114]⟩ = 6 := rfl
  have e6 : ByteArray.size ⟨#[32, 109, 97, 106, 111, 114]⟩ = 6 := rfl
  have f1 : (Lt ++ (⟨#[98]⟩ : ByteArray)).size = 2 := by rw [ByteArray.size_append, hLs, e1]
  have f0 : (Lt ++ (⟨#[]⟩ : ByteArray)).size = 1 := by rw [ByteArray.size_append, hLs, e0]
  have f3 : (Lt ++ (⟨#[35]⟩ : ByteArray)).size = 2 := by rw [ByteArray.size_append, hLs, e3]
  have q2 : IntKind.i64.wrap 0 = 0 := by decide
  have q3 : IntKind.i64.wrap 1 = 1 := by decide
  have q4 : IntKind.i64.wrap 2 = 2 := by decide
  have h3 : a = -1 ∨ a = 0 ∨ a = 1 := by omega
  obtain ⟨R, hR⟩ : ∃ z : ByteArray, Hid (z = ⟨(kn s a m).toArray⟩) := ⟨_, rfl⟩
  rw [← hR.out]
  clear ab
  rcases h3 with rfl | rfl | rfl <;> cases m
  all_goals
    go_enter Tryd.func30, Tryd.ntmps30
    go_wp2_with fail
    refine (rTonic_any f _ _ HS.out).mono ?_
    rintro e w1 ⟨rfl, hG1⟩
    rw [← hs.out, ← ha.out]
    go_wp2_with fail
    go_big_region
    all_goals
      go_wp2_with fail
      go_returns
      refine ⟨ret_str ?_, by (repeat' (first | (with_reducible exact G.refl _) | (with_reducible assumption) | (with_reducible refine G.drewN ?_ _) | (with_reducible refine G.drew ?_) | (with_reducible refine G.alloc ?_ _) | (with_reducible refine G.setCell ?_ (by first | (with_reducible exact Nat.le_refl _) | (simp; done) | (simp; omega) | omega) _) | (with_reducible refine G.trans ?_ (by assumption))))⟩
      rw [hR.out, hLt.out]
      apply ByteArray.ext
      simp [kn, sig, mdw]
end Go.Proofs.YtdiokagnpiiijaaDoor
