/- KeyParses: for every text (cut to 20 bytes), Parse returns the key of which the text is the name by the reference, or the error; the argument reads as before; the tables that the row lists are tied to the program text; no further condition. -/
import Derived.Test.YtdiokagnpiiijaaDoorNamesLaw
import Derived.Test.YtdiokagnpiiijaaDoorPMath
namespace Go.Proofs.YtdiokagnpiiijaaDoor
open Go.RowKit Go.Maps
attribute [local go_sem] World.cell?_alloc_some

theorem bytes_eq {L X : ByteArray} {l : List UInt8} (hX : X = ⟨l.toArray⟩) (b : Bool) (h : b = true ↔ L.data.toList = l) : (X.toList == L.toList) = b ∧ (L.toList == X.toList) = b := by
  subst hX
  rw [toList_data, toList_data]
  by_cases e : L.data.toList = l
  · rw [h.2 e, e]; simp
  · have hb : b = false := by cases b; rfl; exact absurd (h.1 rfl) e
    rw [hb]
    exact ⟨beq_false_of_ne (fun k => e k.symm), beq_false_of_ne e⟩

set_option maxRecDepth 20000 in
set_option maxHeartbeats 6400000 in
theorem parses_walk (s : ByteArray) (w : World) (_ : s.size ≤ maxLen) (hT : Tab w) (hM : ML w) :
    Calls Tryd.prog 7 #[.string s] w fun e w' => e = .returned (.bool true) ∧ G w w' := by
  have HT := Lib.hid hT
  have HM := Lib.hid hM
  clear hT hM
  go_enter Tryd.func7, Tryd.ntmps7
  go_wp2_with fail
  obtain ⟨L, HL⟩ : ∃ L : ByteArray, Hid (L = s.extract 0 (min (s.size : Int) 20).toNat) := ⟨_, rfl⟩
  rw [← HL.out]
  have hL : L.size ≤ 100 := by rw [HL.out, ByteArray.size_extract]; omega
  obtain ⟨n, mm, e0, hp⟩ : ∃ n mm e0, Hid (parV L.data.toList = (n, mm, e0)) := ⟨_, _, _, rfl⟩
  refine (Parse_any L _ hL (HT.out.later (by (repeat' (first | (with_reducible exact G.refl _) | (with_reducible assumption) | (with_reducible refine G.drewN ?_ _) | (with_reducible refine G.drew ?_) | (with_reducible refine G.alloc ?_ _) | (with_reducible refine G.setCell ?_ (by first | (with_reducible exact Nat.le_refl _) | (simp; done) | (simp; omega) | omega) _) | (with_reducible refine G.trans ?_ (by assumption)))))) (HM.out.later (by (repeat' (first | (with_reducible exact G.refl _) | (with_reducible assumption) | (with_reducible refine G.drewN ?_ _) | (with_reducible refine G.drew ?_) | (with_reducible refine G.alloc ?_ _) | (with_reducible refine G.setCell ?_ (by first | (with_reducible exact Nat.le_refl _) | (simp; done) | (simp; omega) | omega) _) | (with_reducible refine G.trans ?_ (by assumption))))))).mono ?_
  rintro e w1 ⟨rfl, hG1⟩
  rw [hp.out]
  try rw [← HL.out]
  go_wp2_with fail
  refine (known_any _ (HT.out.later (by (repeat' (first | (with_reducible exact G.refl _) | (with_reducible assumption) | (with_reducible refine G.drewN ?_ _) | (with_reducible refine G.drew ?_) | (with_reducible refine G.alloc ?_ _) | (with_reducible refine G.setCell ?_ (by first | (with_reducible exact Nat.le_refl _) | (simp; done) | (simp; omega) | omega) _) | (with_reducible refine G.trans ?_ (by assumption))))))).mono ?_
  rintro e w2 ⟨rfl, hG2⟩
  go_wp2_with fail
  go_loopg [6] 15 (fun g x wr => ∃ k : Int, x = .int .i64 k ∧ g = (8 - k).toNat ∧ -7 ≤ k ∧ k ≤ 8 ∧ Hid (∀ (j : Int) (m : Bool), -7 ≤ j → j < k → L.data.toList ≠ kn (tS (j + mi m)) (tA (j + mi m)) m) ∧ G w wr)
  case atStart => exact ⟨-7, rfl, by decide, by omega, by omega, Lib.hid (fun j m p q => by omega), by (repeat' (first | (with_reducible exact G.refl _) | (with_reducible assumption) | (with_reducible refine G.drewN ?_ _) | (with_reducible refine G.drew ?_) | (with_reducible refine G.alloc ?_ _) | (with_reducible refine G.setCell ?_ (by first | (with_reducible exact Nat.le_refl _) | (simp; done) | (simp; omega) | omega) _) | (with_reducible refine G.trans ?_ (by assumption))))⟩
  case round =>
    obtain ⟨k, rfl, hg, k0, k1, hno, hG⟩ := hrel
    have HG := Lib.hid hg
    clear hg
    by_cases k8 : k = 8
    · subst k8
      have hq : n = 0 ∧ mm = false ∧ e0 = 12 := by
        rcases parV_back L.data.toList with h | ⟨f, m, _, hf, h⟩
        · rw [hp.out] at h
          exact ⟨congrArg (·.1) h, congrArg (·.2.1) h, congrArg (·.2.2) h⟩
        · exact absurd h (hno.out f m hf.1 (by have := hf.2; omega))
      obtain ⟨rfl, rfl, rfl⟩ := hq
      go_wp2_with fail
      go_ret
      exact ⟨rfl, by (repeat' (first | (with_reducible exact G.refl _) | (with_reducible assumption) | (with_reducible refine G.drewN ?_ _) | (with_reducible refine G.drew ?_) | (with_reducible refine G.alloc ?_ _) | (with_reducible refine G.setCell ?_ (by first | (with_reducible exact Nat.le_refl _) | (simp; done) | (simp; omega) | omega) _) | (with_reducible refine G.trans ?_ (by assumption))))⟩
    · have k7 : k ≤ 7 := by omega
      have q := IntWalk.i64_in (k + 1) (by omega)
      go_wp2_with fail
      go_loopg [7] 2 (fun g x wr => ∃ i : Int, x = .int .i64 i ∧ g = (2 - i).toNat ∧ 0 ≤ i ∧ i ≤ 2 ∧ Hid (∀ m : Bool, (if m then 1 else 0 : Int) < i → L.data.toList ≠ kn (tS (k + mi m)) (tA (k + mi m)) m) ∧ G w wr)
      case atStart => exact ⟨0, rfl, by decide, by omega, by omega, Lib.hid (fun m p => by cases m <;> simp at p), hG⟩
      case round =>
        obtain ⟨i, rfl, hg, i0, i1, hns, hG2⟩ := hrel
        have HGS := Lib.hid hg
        clear hg
        have h3 : i = 0 ∨ i = 1 ∨ i = 2 := by omega
        rcases h3 with rfl | rfl | rfl
        · obtain ⟨X, hX⟩ : ∃ z : ByteArray, Hid (z = ⟨(kn (tS (k + mi false)) (tA (k + mi false)) false).toArray⟩) := ⟨_, rfl⟩
          by_cases hm : L.data.toList = kn (tS (k + mi false)) (tA (k + mi false)) false
          · obtain ⟨hb, hb'⟩ := bytes_eq hX.out true ⟨fun _ => hm, fun _ => rfl⟩
            have hq : n = k ∧ mm = false ∧ e0 = 0 := by
              have h := hp.out
              rw [hm, (parV_kn false ⟨k0, k7⟩).1] at h
              exact ⟨(congrArg (·.1) h).symm, (congrArg (·.2.1) h).symm, (congrArg (·.2.2) h).symm⟩
            obtain ⟨rfl, rfl, rfl⟩ := hq
            clear hm
            go_wp2_with fail
            refine (rName_any n false _ ⟨k0, k7⟩).mono ?_
            rintro e w3 ⟨rfl, hG3⟩
            rw [← hX.out]
            go_wp2_with fail
            go_ret
            exact ⟨rfl, by (repeat' (first | (with_reducible exact G.refl _) | (with_reducible assumption) | (with_reducible refine G.drewN ?_ _) | (with_reducible refine G.drew ?_) | (with_reducible refine G.alloc ?_ _) | (with_reducible refine G.setCell ?_ (by first | (with_reducible exact Nat.le_refl _) | (simp; done) | (simp; omega) | omega) _) | (with_reducible refine G.trans ?_ (by assumption))))⟩
          · obtain ⟨hb, hb'⟩ := bytes_eq hX.out false ⟨fun z => absurd z (by decide), fun z => absurd z hm⟩
            have HNS := Lib.hid (show ∀ m : Bool, (if m then 1 else 0 : Int) < 0 + 1 → L.data.toList ≠ kn (tS (k + mi m)) (tA (k + mi m)) m by
              intro m p
              by_cases e : m = false
              · rw [e]; exact hm
              · exact hns.out m (by cases m <;> simp at e p ⊢))
            clear hm
            go_wp2_with fail
            refine (rName_any k false _ ⟨k0, k7⟩).mono ?_
            rintro e w3 ⟨rfl, hG3⟩
            rw [← hX.out]
            go_wp2_with fail
            go_roundg ((2 - (0 + 1) : Int).toNat)
            case measure => have := HGS.out; omega
            case rel => exact ⟨0 + 1, rfl, rfl, by omega, by omega, HNS, by (repeat' (first | (with_reducible exact G.refl _) | (with_reducible assumption) | (with_reducible refine G.drewN ?_ _) | (with_reducible refine G.drew ?_) | (with_reducible refine G.alloc ?_ _) | (with_reducible refine G.setCell ?_ (by first | (with_reducible exact Nat.le_refl _) | (simp; done) | (simp; omega) | omega) _) | (with_reducible refine G.trans ?_ (by assumption))))⟩
        · obtain ⟨X, hX⟩ : ∃ z : ByteArray, Hid (z = ⟨(kn (tS (k + mi true)) (tA (k + mi true)) true).toArray⟩) := ⟨_, rfl⟩
          by_cases hm : L.data.toList = kn (tS (k + mi true)) (tA (k + mi true)) true
          · obtain ⟨hb, hb'⟩ := bytes_eq hX.out true ⟨fun _ => hm, fun _ => rfl⟩
            have hq : n = k ∧ mm = true ∧ e0 = 0 := by
              have h := hp.out
              rw [hm, (parV_kn true ⟨k0, k7⟩).1] at h
              exact ⟨(congrArg (·.1) h).symm, (congrArg (·.2.1) h).symm, (congrArg (·.2.2) h).symm⟩
            obtain ⟨rfl, rfl, rfl⟩ := hq
            clear hm
            go_wp2_with fail
            refine (rName_any n true _ ⟨k0, k7⟩).mono ?_
            rintro e w3 ⟨rfl, hG3⟩
            rw [← hX.out]
            go_wp2_with fail
            go_ret
            exact ⟨rfl, by (repeat' (first | (with_reducible exact G.refl _) | (with_reducible assumption) | (with_reducible refine G.drewN ?_ _) | (with_reducible refine G.drew ?_) | (with_reducible refine G.alloc ?_ _) | (with_reducible refine G.setCell ?_ (by first | (with_reducible exact Nat.le_refl _) | (simp; done) | (simp; omega) | omega) _) | (with_reducible refine G.trans ?_ (by assumption))))⟩
          · obtain ⟨hb, hb'⟩ := bytes_eq hX.out false ⟨fun z => absurd z (by decide), fun z => absurd z hm⟩
            have HNS := Lib.hid (show ∀ m : Bool, (if m then 1 else 0 : Int) < 1 + 1 → L.data.toList ≠ kn (tS (k + mi m)) (tA (k + mi m)) m by
              intro m p
              by_cases e : m = true
              · rw [e]; exact hm
              · exact hns.out m (by cases m <;> simp at e p ⊢))
            clear hm
            go_wp2_with fail
            refine (rName_any k true _ ⟨k0, k7⟩).mono ?_
            rintro e w3 ⟨rfl, hG3⟩
            rw [← hX.out]
            go_wp2_with fail
            go_roundg ((2 - (1 + 1) : Int).toNat)
            case measure => have := HGS.out; omega
            case rel => exact ⟨1 + 1, rfl, rfl, by omega, by omega, HNS, by (repeat' (first | (with_reducible exact G.refl _) | (with_reducible assumption) | (with_reducible refine G.drewN ?_ _) | (with_reducible refine G.drew ?_) | (with_reducible refine G.alloc ?_ _) | (with_reducible refine G.setCell ?_ (by first | (with_reducible exact Nat.le_refl _) | (simp; done) | (simp; omega) | omega) _) | (with_reducible refine G.trans ?_ (by assumption))))⟩
        · have HNA := Lib.hid (show ∀ (j : Int) (m : Bool), -7 ≤ j → j < k + 1 → L.data.toList ≠ kn (tS (j + mi m)) (tA (j + mi m)) m by
            intro j m p r
            by_cases e : j = k
            · rw [e]; exact hns.out m (by cases m <;> decide)
            · exact hno.out j m p (by omega))
          go_wp2_with fail
          go_roundg ((8 - (k + 1)).toNat)
          case measure => have := HG.out; omega
          case rel => exact ⟨k + 1, rfl, rfl, by omega, by omega, HNA, hG2⟩

/-! ### the row and the card -/
open Go.ChangeShapes Go.WideShapes Go.ChangeAt Go.RowKit
set_option maxRecDepth 100000 in
theorem keyParses_lifted (os : Os) (started : os.Started) (H : Type) (enc : TypeId × Value → H) :
    ReturnsInHanded {} Tryd.checked os 7 .any (fun w args => (Rows.keyParsesSpec.pre enc Tryd.prog Tryd.f7 [] false w args ∧ laidMetH Tryd.prog laidL w) ∧ sizedMet enc Tryd.prog Tryd.f7 (OpenSpec.ofChange Rows.keyParsesSpec) false w args)
      (Rows.keyParsesSpec.post enc Tryd.prog Tryd.f7 false true false false) := by
  refine handed_both (C := Tryd.checked) (X := fun w _ => laidMetH Tryd.prog laidL w) (fun _ _ _ hh h => h.of_heap hh) own started (by kernel_rfl) Tryd.func7
    (ChangeSpec.witness_shaped (enc := enc) (C := Tryd.checked) (os := os) (X := fun w _ => laidMetH Tryd.prog laidL w) false (World.laidAll Tryd.prog os laidL) #[.string .empty] 8 (World.laidAll_os _ _ _) (shapedL os) (by kernel_rfl) (by kernel_rfl) (by kernel_rfl) (laid_met os _)) ?_
  intro W base args ds gs before hval0 hW hL hsh
  have hval : ∀ (j : Nat) t v, Tryd.f7.params[j]? = some t → args[j]? = some v → Value.okWide Tryd.prog W .any base t v := hval0
  have hW' := hW
  obtain ⟨p, q, hA0, hV, rfl, hfz, hnd⟩ := hW
  have hA : DataW.TrodAll enc Tryd.prog W 0 (fun _ => true) true Tryd.f7.params.toList args.toList ds p := hA0
  rw [Tryd.params7] at hA hval
  obtain ⟨v0, vs0, d0, ds0, p0, q0, hargs, rfl, rfl, h0, r0⟩ := trodAll_cons hA
  obtain ⟨rfl, rfl, rfl⟩ := trodAll_nil r0
  obtain rfl : args = #[v0] := by cases args; simp_all
  obtain ⟨rfl, rfl⟩ := trodVars_none hV
  obtain ⟨s0, rfl, rfl, rfl, hs0⟩ := ChangeMaps.open_string Tryd.underlying9 (hval 0 9 v0 rfl rfl) h0
  clear hA0 hval0
  simp only [List.append_nil] at hW'
  refine (parses_walk s0 W hs0  (tab_of_laid hL) (ml_of hsh)).mono fun e W' ⟨he, hg⟩ => ?_
  subst he
  exact ⟨_, rfl, _, _, _, [], [], [], hW', (trodAll_cons_mk (shut_bool Tryd.underlying4 _) trodAll_mk0), (trodAll_cons_mk (ChangeMaps.shut_string Tryd.underlying9 hs0) trodAll_mk0), rfl, Below.frame hg _, fun h => by cases h⟩

theorem keyParses_holds : Rows.KeyParsesSaid :=
  OpenClaim.holds_of_wide 7 Tryd.f7 rfl rfl rfl rfl rfl rfl rfl ⟨rfl, rfl, rfl, rfl, rfl⟩ rfl rfl rfl rfl rfl (by kernel_rfl) Tryd.func7 (by kernel_rfl)
    (of_decide_eq_true (by kernel_rfl)) (by unfold Func.isWrapper; first | (rw [if_pos (by decide +kernel)]; kernel_rfl) | (rw [if_neg (by decide +kernel)]; exact ⟨rfl, rfl⟩))
    (fun os started H enc _ => keyParses_lifted os started H enc)

theorem keyParses_card : Rows.KeyParsesCardSaid :=
  Claim7.holds_tied_plain_at .later [] [.data, .data] true (true, "2117eec5325c27370f2aa61ddd4a23a865e68bbc1d9bb0ef2c27e10075a20c79") false
    keyParses_holds (fun _ h => by cases h) (by kernel_rfl) (fun _ h => by cases h) keyParses_row_tie rfl ⟨rfl, rfl⟩ (by kernel_rfl) rfl
    (fun f fn hf hfn => by
      obtain rfl : f = 7 := Option.some.inj ((show Tryd.prog.funcNamed "hemiola/hemiolalaw07.KeyParses" = some 7 by kernel_rfl).symm.trans hf) |>.symm
      obtain rfl : fn = Tryd.f7 := (Option.some.inj (Tryd.func7.symm.trans hfn)).symm
      exact ⟨by kernel_rfl, fun j t ht => by
        rw [Tryd.params7] at ht
        have hm : t ∈ [9] := by simpa using Array.mem_of_getElem? ht
        have hall : ([9].all fun u => !Tryd.prog.wantsStandIn u) = true := by kernel_rfl
        exact (show Tryd.prog.wantsStandIn t = false by simpa using List.all_eq_true.1 hall t hm)⟩)
    (by kernel_rfl)
#print axioms keyParses_card
end Go.Proofs.YtdiokagnpiiijaaDoor
