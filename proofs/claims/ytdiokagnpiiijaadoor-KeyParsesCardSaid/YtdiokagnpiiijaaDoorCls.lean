import Derived.Test.YtdiokagnpiiijaaDoorStepMap
/-! The letter and the sign of a tonic. -/
namespace Go.Proofs.YtdiokagnpiiijaaDoor
open Go.RowKit Go.Maps
attribute [local go_sem] World.cell?_alloc_some

theorem drop_at (s : ByteArray) (k : Nat) (h : k < s.size) : s.data.toList.drop k = s[k] :: s.data.toList.drop (k + 1) := by
  rw [List.drop_eq_getElem_cons (by simpa using h)]; rfl
theorem toList_data (B : ByteArray) : B.toList = B.data.toList := ByteArray.toList_eq B
def sgn (r : List UInt8) : Int := if r = [98] then 0 else if r = [] then 1 else if r = [35] then 2 else 3
/-- the step, the alteration, and whether the text is a letter and a sign -/
def clV (l : List UInt8) : Int × Int × Bool := match l with
  | [] => (0, 0, false)
  | c :: r => if kno c = true ∧ sgn r < 3 then (cst c, sgn r - 1, true) else (0, 0, false)

/-- the signs by value, indexed -/
def sgB (k : Int) : ByteArray := if k = 0 then ⟨#[98]⟩ else if k = 1 then ⟨#[]⟩ else ⟨#[35]⟩
theorem idx3 (k : Int) (h0 : 0 ≤ k) (h1 : k ≤ 2) (B : ByteArray) (hB : B = sgB k) (w : World) :
    (Instr.index 76 (.agg #[.string ⟨#[98]⟩, .string ⟨#[]⟩, .string ⟨#[35]⟩]) (.int .i64 k)).run Tryd.prog w = .ok (.string B) w := by
  subst hB
  have h : k = 0 ∨ k = 1 ∨ k = 2 := by omega
  rcases h with rfl | rfl | rfl <;> simp [Instr.index, run_underlying Tryd.underlying76, asIntOf, go_sem, sgB]
theorem sg_eq {r : List UInt8} {k : Int} (h0 : 0 ≤ k) (h1 : k ≤ 2) : ((sgB k).data.toList = r) ↔ sgn r = k := by
  have h : k = 0 ∨ k = 1 ∨ k = 2 := by omega
  unfold sgn
  rcases h with rfl | rfl | rfl
  · simp only [sgB, if_true]
    constructor
    · intro e; rw [← e]; rfl
    · intro e; (repeat' split at e) <;> first | omega | (rename_i q; rw [q])
  · simp only [sgB]
    constructor
    · intro e; rw [← e]; rfl
    · intro e; (repeat' split at e) <;> first | omega | (rename_i q; rw [q]; rfl)
  · simp only [sgB]
    constructor
    · intro e; rw [← e]; rfl
    · intro e; (repeat' split at e) <;> first | omega | (rename_i q; rw [q]; rfl)

set_option maxHeartbeats 800000 in
theorem class_nil (w : World) : Calls Tryd.prog 44 #[.string ⟨#[]⟩] w fun e w' => e = .returned (.tuple #[.int .i64 0, .int .i64 0, .bool false]) ∧ G w w' := by
  go_enter Tryd.func44, Tryd.ntmps44
  go_wp2_with fail
  go_returns
  exact ⟨rfl, by (repeat' (first | (with_reducible exact G.refl _) | (with_reducible assumption) | (with_reducible refine G.drewN ?_ _) | (with_reducible refine G.drew ?_) | (with_reducible refine G.alloc ?_ _) | (with_reducible refine G.setCell ?_ (by first | (with_reducible exact Nat.le_refl _) | (simp; done) | (simp; omega) | omega) _) | (with_reducible refine G.trans ?_ (by assumption))))⟩

set_option maxRecDepth 20000 in
set_option maxHeartbeats 3200000 in
theorem class_cons (s : ByteArray) (c : UInt8) (r : List UInt8) (w : World) (hs : s.size ≤ 100) (hl : s.data.toList = c :: r) (hT : Tab w) :
    Calls Tryd.prog 44 #[.string s] w fun e w' => e = .returned (.tuple #[.int .i64 (clV (c :: r)).1, .int .i64 (clV (c :: r)).2.1, .bool (clV (c :: r)).2.2]) ∧ G w w' := by
  have HT := Lib.hid hT
  clear hT
  have hsz : s.size = r.length + 1 := by
    have : s.data.toList.length = s.size := by simp
    rw [hl] at this; simpa using this.symm
  have hix : ∀ wz, (Instr.index 9 (.string s) (.int .i64 0)).run Tryd.prog wz = .ok (.int .u8 (c.toNat : Int)) wz := by
    intro wz
    have g : s[0]? = some c := by
      rw [ByteArray.getElem?_lt' s 0 (by omega)]
      have k := drop_at s 0 (by omega)
      rw [List.drop_zero, hl] at k
      rw [(List.cons.inj k).1]
    simp [Instr.index, run_underlying Tryd.underlying9, asIntOf, go_sem, g]
  obtain ⟨D, hD⟩ : ∃ z : ByteArray, Hid (z = ⟨r.toArray⟩) := ⟨_, rfl⟩
  have hsl : ∀ wz, (Instr.sliceAt 9 (.string s) (some (.int .i64 1)) none none).run Tryd.prog wz = .ok (.string D) wz := by
    intro wz
    rw [run_sliceAt_string wz _ _ _ _ _ Tryd.underlying9, run_slice_string_l wz _ _ Tryd.underlying9 _ _ (by omega) (by omega)]
    have e : s.extract 1 s.size = D := by
      rw [hD.out]
      apply ByteArray.ext
      apply Array.toList_inj.1
      simp [hl]
      exact List.take_of_length_le (by omega)
    rw [← e]
    rfl
  have hnil : (s.toList == []) = false := by rw [toList_data, hl]; rfl
  have HC := Lib.hid (show ∀ k : Int, 0 ≤ k → k ≤ 2 → ((sgB k).toList == D.toList) = decide (sgn r = k) from fun k h0 h1 => by
    rw [toList_data, toList_data, hD.out]
    by_cases e : sgn r = k
    · rw [decide_eq_true e]; exact beq_iff_eq.2 ((sg_eq h0 h1).2 e)
    · rw [decide_eq_false e]; exact beq_false_of_ne (fun q => e ((sg_eq h0 h1).1 q)))
  obtain ⟨R, hR⟩ : ∃ z : Value, Hid (z = .tuple #[.int .i64 (clV (c :: r)).1, .int .i64 (clV (c :: r)).2.1, .bool (clV (c :: r)).2.2]) := ⟨_, rfl⟩
  rw [← hR.out]
  obtain ⟨g0, g1, g2⟩ : _ ∧ _ ∧ _ := ⟨HT.out.g0, HT.out.g1, HT.out.g2⟩
  have HV := Lib.hid (show R = if kno c = true ∧ sgn r < 3 then .tuple #[.int .i64 (cst c), .int .i64 (sgn r - 1), .bool true] else .tuple #[.int .i64 0, .int .i64 0, .bool false] by
    rw [hR.out]; unfold clV; dsimp only; split <;> rfl)
  obtain ⟨K, hK⟩ : ∃ z : Bool, Hid (z = kno c) := ⟨_, rfl⟩
  obtain ⟨V, hV⟩ : ∃ z : Int, Hid (z = cst c) := ⟨_, rfl⟩
  rw [← hK.out, ← hV.out] at HV
  obtain ⟨m, hm⟩ : ∃ z : Int, sgn r = z := ⟨_, rfl⟩
  rw [hm] at HC HV
  have hm2 : 0 ≤ m ∧ m ≤ 3 := by rw [← hm]; unfold sgn; (repeat' split) <;> omega
  clear hm hsz hl
  go_enter Tryd.func44, Tryd.ntmps44
  go_wp2_with fail
  go_region_held3 (fun w' => True) (trivial)
    (first | (go_at_call 48; refine (steps_any _).mono ?_; rintro e w1 ⟨B, rfl, hown, hG1⟩; have hlk := look_c hown c; rw [← hK.out, ← hV.out] at hlk))
  all_goals
    have gw1 : G w w1 := by (repeat' (first | (with_reducible exact G.refl _) | (with_reducible assumption) | (with_reducible refine G.drewN ?_ _) | (with_reducible refine G.drew ?_) | (with_reducible refine G.alloc ?_ _) | (with_reducible refine G.setCell ?_ (by first | (with_reducible exact Nat.le_refl _) | (simp; done) | (simp; omega) | omega) _) | (with_reducible refine G.trans ?_ (by assumption))))
    replace g0 := gw1.at g0
    replace g1 := gw1.at g1
    replace g2 := gw1.at g2
    go_wp2_with fail
    clear g0 g1 g2 hlk hown
    go_loopg [2, 18] 3 (fun g y x wr => ∃ k : Int, y = .int .i64 V ∧ x = .int .i64 k ∧ g = (3 - k).toNat ∧ 0 ≤ k ∧ k ≤ 3 ∧ Hid (K = true → k ≤ m) ∧ wr = w1)
    case atStart => exact ⟨0, rfl, rfl, rfl, by omega, by omega, Lib.hid (fun _ => hm2.1), rfl⟩
    case round =>
      obtain ⟨k, rfl, rfl, hg, k0, k1, hno, rfl⟩ := hrel
      have HG := Lib.hid hg
      clear hg
      by_cases k3 : k = 3
      · subst k3
        have HR := Lib.hid (show R = .tuple #[.int .i64 0, .int .i64 0, .bool false] by
          rw [HV.out, if_neg (fun q => by have := hno.out q.1; omega)])
        go_wp2_with fail
        go_returns
        refine ⟨?_, gw1⟩
        rw [HR.out]; rfl
      · have k2 : k ≤ 2 := by omega
        obtain ⟨E, hE⟩ : ∃ z : ByteArray, Hid (z = sgB k) := ⟨_, rfl⟩
        have hi3 := idx3 k k0 k2 E hE.out
        have hc := HC.out k k0 k2
        rw [← hE.out] at hc
        have q := IntWalk.i64_in (k + 1) (by omega)
        have q2 := IntWalk.i64_in (k - 1) (by omega)
        cases K
        · go_wp2_with fail
          go_roundg ((3 - (k + 1)).toNat)
          case measure => have := HG.out; omega
          case rel => exact ⟨k + 1, rfl, rfl, rfl, by omega, by omega, Lib.hid (fun h => by cases h), rfl⟩
        · by_cases e : m = k
          · rw [decide_eq_true e] at hc
            have HR := Lib.hid (show R = .tuple #[.int .i64 V, .int .i64 (k - 1), .bool true] by
              rw [HV.out, if_pos ⟨rfl, by omega⟩, e])
            clear e
            go_wp2_with fail
            go_returns
            refine ⟨?_, gw1⟩
            rw [HR.out]; rfl
          · rw [decide_eq_false e] at hc
            have HN := Lib.hid (show true = true → k + 1 ≤ m from fun h => by have := hno.out h; omega)
            clear e
            go_wp2_with fail
            go_roundg ((3 - (k + 1)).toNat)
            case measure => have := HG.out; omega
            case rel => exact ⟨k + 1, rfl, rfl, rfl, by omega, by omega, HN, rfl⟩

theorem class_any (s : ByteArray) (w : World) (hs : s.size ≤ 100) (hT : Tab w) :
    Calls Tryd.prog 44 #[.string s] w fun e w' => e = .returned (.tuple #[.int .i64 (clV s.data.toList).1, .int .i64 (clV s.data.toList).2.1, .bool (clV s.data.toList).2.2]) ∧ G w w' := by
  cases h : s.data.toList with
  | nil =>
    have e : s = ⟨#[]⟩ := by apply ByteArray.ext; apply Array.toList_inj.1; rw [h]
    rw [e]; exact class_nil w
  | cons c r => exact class_cons s c r w hs h hT
end Go.Proofs.YtdiokagnpiiijaaDoor
