import Derived.Test.YtghlecocnflbnaaDoorA9
/-! Accidentals: the places of notes with marks. -/
namespace Go.Proofs.YtghlecocnflbnaaDoor
open Go.RowKit
attribute [local go_sem] World.cell?_alloc_some

def plE (n : Pl) : List Value := [.int .i64 n.t, .int .i64 n.st, .int .i64 n.oc, .int .i64 n.k, .bool n.pr, .bool n.hd, .int .i64 n.bf]
theorem plE_len (n : Pl) : (plE n).length = 7 := rfl
theorem pInfo : (Tryd.prog.info? 45).map (fun i => (i.zero, i.size, i.bytes)) = some (some (.agg #[.int .i64 0, .int .i64 0, .int .i64 0, .int .i64 0, .bool false, .bool false, .int .i64 0]), 7, 56) := by kernel_rfl
theorem Row.pls {e : TypeId} {base : Nat} {w : World} {v : Value} {l : List Pl} (h : Row plE e 7 base w v l) : ∃ a c, v = .slice a l.length c ∧ PlsAt w a l := by
  rcases h.cells plE_len with ⟨rfl, rfl⟩ | ⟨g, cap, rfl, _, _, _, hc⟩
  · exact ⟨none, 0, rfl, .inl rfl⟩
  · refine ⟨_, _, rfl, .inr ⟨g, 0, rfl, fun i n hn => ?_⟩⟩
    rw [Nat.zero_add]
    exact ⟨(hc i n hn 0 _ rfl).1, (hc i n hn 1 _ rfl).1, (hc i n hn 2 _ rfl).1, (hc i n hn 3 _ rfl).1, (hc i n hn 4 _ rfl).1, (hc i n hn 5 _ rfl).1, (hc i n hn 6 _ rfl).1⟩
theorem plL_len {l : List Nt} {M : List (Int × Bool)} (h : M.length = l.length) : (plL l M).length = l.length := by
  unfold plL; rw [List.length_zipWith]; omega
theorem plL_next {l : List Nt} {M : List (Int × Bool)} {i : Nat} {n : Nt} {m : Int × Bool} (h1 : l[i]? = some n) (h2 : M[i]? = some m) : plL (l.take (i + 1)) (M.take (i + 1)) = plL (l.take i) (M.take i) ++ [plO n m] := by
  unfold plL
  have e1 : i ≤ l.length := by have := (List.getElem?_eq_some_iff.1 h1).1; omega
  have e2 : i ≤ M.length := by have := (List.getElem?_eq_some_iff.1 h2).1; omega
  rw [List.take_add_one, List.take_add_one, h1, h2, List.zipWith_append (by rw [List.length_take, List.length_take]; omega)]
  rfl

set_option maxRecDepth 100000 in
set_option maxHeartbeats 12800000 in
theorem places_any (a b : Option Addr) (l : List Nt) (M : List (Int × Bool)) (n c d : Nat) (w : World) (hn : l.length = n) (hm : M.length = n) (hl : n ≤ 3000) (h1 : NtsAt w a l) (h2 : MksAt w b M) :
    Calls Tryd.prog 21 #[.slice a n c, .slice b n d] w fun e w' => ∃ v, e = .returned v ∧ Row plE 45 7 w.heap.size w' v (plL l M) ∧ G w w' := by
  obtain ⟨i0, hi, hz0, hz1, hz2⟩ := info_parts' pInfo
  have H1 := Lib.hid h1
  have H2 := Lib.hid h2
  have HN := Lib.hid hn
  have HM := Lib.hid hm
  clear h1 h2 hn hm
  go_enter Tryd.func21, Tryd.ntmps21
  go_wp2_with fail
  go_loopg [5, 6] n (fun q y x wr => ∃ (i : Nat) (v : Value), v = y ∧ x = .int .i64 i ∧ q = n - i ∧ i ≤ n ∧ Hid (Row plE 45 7 w.heap.size wr v (plL (l.take i) (M.take i))) ∧ G w wr)
  case atStart => exact ⟨0, _, rfl, rfl, by omega, by omega, Lib.hid (by simpa [plL] using Row.nil (enc := plE) w), by (repeat' (first | (with_reducible exact G.refl _) | (with_reducible assumption) | (with_reducible refine G.drewN ?_ _) | (with_reducible refine G.drew ?_) | (with_reducible refine G.alloc ?_ _) | (with_reducible refine G.setCell ?_ (by first | (with_reducible exact Nat.le_refl _) | (simp; done) | (simp; omega) | omega) _) | (with_reducible refine G.trans ?_ (by assumption))))⟩
  case round =>
    obtain ⟨i, v, rfl, rfl, hq, hi', hR, gr⟩ := hrel
    have HQ := Lib.hid hq
    clear hq
    by_cases hin : i < n
    · obtain ⟨⟨t, s, al, o, hd, sh⟩, hp⟩ : ∃ z, l[i]? = some z := ⟨l[i]'(by have := HN.out; omega), List.getElem?_eq_getElem (by have := HN.out; omega)⟩
      obtain ⟨⟨K, PB⟩, hm⟩ : ∃ z, M[i]? = some z := ⟨M[i]'(by have := HM.out; omega), List.getElem?_eq_getElem (by have := HM.out; omega)⟩
      rcases H1.out with hz | ⟨bl, of, rfl, fc⟩
      · rw [hz] at hp; simp at hp
      rcases H2.out with hz | ⟨bm, rfl, fm⟩
      · rw [hz] at hm; simp at hm
      obtain ⟨x0, x1, x2, x3, x4, x5⟩ := (fc i _ hp).later gr
      obtain ⟨y0, y1⟩ := fm i _ hm
      replace y0 := gr.at y0
      replace y1 := gr.at y1
      dsimp only at x0 x1 x2 x3 x4 x5 y0 y1
      have HX := Lib.hid (plL_next hp hm)
      have HLT := Lib.hid (show (plL (l.take i) (M.take i)).length = i by rw [plL_len (by rw [List.length_take, List.length_take]; have := HN.out; have := HM.out; omega), List.length_take]; have := HN.out; omega)
      have b1 : (0 : Int) ≤ (i : Int) := by omega
      have b2 : (i : Int) < (n : Int) := by omega
      have q1 := IntWalk.i64_in ((i : Int) + 1) (by omega)
      have hsz := gr.size
      have RL := Lib.hid (Row.ltN hR.out)
      clear fc fm hp hm
      cases hd
      · go_wp2_with fail
        go_region_held3 (fun w' => w'.cell? ⟨bl, of + i * 6, none⟩ = some (.int .i64 t) ∧ w'.cell? ⟨bl, of + i * 6 + 1, none⟩ = some (.int .i64 s) ∧ w'.cell? ⟨bl, of + i * 6 + 2, none⟩ = some (.int .i64 al) ∧ w'.cell? ⟨bl, of + i * 6 + 3, none⟩ = some (.int .i64 o) ∧ w'.cell? ⟨bl, of + i * 6 + 4, none⟩ = some (.bool false) ∧ w'.cell? ⟨bl, of + i * 6 + 5, none⟩ = some (.int .i64 sh) ∧ w'.cell? ⟨bm, i * 2, none⟩ = some (.int .i64 K) ∧ w'.cell? ⟨bm, i * 2 + 1, none⟩ = some (.bool PB))
          (first | (with_reducible assumption) | ((try dsimp only); (repeat' (with_reducible apply And.intro)) <;> go_simp))
          (fail)
        all_goals
          go_wp2_with (at_builtin; refine wpList_append_own _ rfl _ _ 38 rfl w.heap.size 45 i0 (.agg #[.int .i64 0, .int .i64 0, .int .i64 0, .int .i64 0, .bool false, .bool false, .int .i64 0]) 7 56 Tryd.underlying38 hi hz0 hz1 hz2 rfl (by decide) v (plL (l.take i) (M.take i)).length ((plL (l.take i) (M.take i)).flatMap plE) rfl (show Row plE 45 7 w.heap.size _ v (plL (l.take i) (M.take i)) from by repeat' (first | (with_reducible exact hR.out) | (with_reducible refine Row.al ?_ _) | (with_reducible refine Row.drw ?_) | (with_reducible refine Row.farN ?_ RL.out _ _))) ⟨wr.heap.size + 1, 0, none⟩ 1 1 [.int .i64 t, .int .i64 s, .int .i64 o, .int .i64 K, .bool PB, .bool false, .int .i64 (0)] rfl rfl (new_add _ _ [.int .i64 t, .int .i64 s, .int .i64 o, .int .i64 K, .bool PB, .bool false, .int .i64 (0)] _ (by simp [go_sem])) (by simp [Value.oneCell']) (by unfold maxLen; rw [HLT.out]; omega) (by rw [HLT.out]; omega) (by simp [go_sem]; omega) ?_; intro v' w6 hown' hgrow _)
          have RN := Lib.hid (Row.more (enc := plE) (M := plL (l.take i) (M.take i)) (x := plO ⟨t, s, al, o, false, sh⟩ (K, PB)) hown')
          have gN : G w w6 := by
            refine Below.grown (B := w.heap.size) ?_ hgrow ?_ (fun k hk => hR.out.own k hk)
            · show G w _
              (repeat' (first | (with_reducible exact G.refl _) | (with_reducible assumption) | (with_reducible refine G.drewN ?_ _) | (with_reducible refine G.drew ?_) | (with_reducible refine G.alloc ?_ _) | (with_reducible refine G.setCell ?_ (by first | (with_reducible exact Nat.le_refl _) | (simp; done) | (simp; omega) | omega) _) | (with_reducible refine G.trans ?_ (by assumption))))
            · simp [go_sem]; omega
          go_roundg (n - (i + 1))
          case measure => have := HQ.out; omega
          case rel => exact ⟨i + 1, v', rfl, by first | rfl | simp, rfl, by omega, Lib.hid (by rw [HX.out]; exact RN.out), gN⟩
      · go_wp2_with fail
        go_region_held3 (fun w' => w'.cell? ⟨bl, of + i * 6, none⟩ = some (.int .i64 t) ∧ w'.cell? ⟨bl, of + i * 6 + 1, none⟩ = some (.int .i64 s) ∧ w'.cell? ⟨bl, of + i * 6 + 2, none⟩ = some (.int .i64 al) ∧ w'.cell? ⟨bl, of + i * 6 + 3, none⟩ = some (.int .i64 o) ∧ w'.cell? ⟨bl, of + i * 6 + 4, none⟩ = some (.bool true) ∧ w'.cell? ⟨bl, of + i * 6 + 5, none⟩ = some (.int .i64 sh) ∧ w'.cell? ⟨bm, i * 2, none⟩ = some (.int .i64 K) ∧ w'.cell? ⟨bm, i * 2 + 1, none⟩ = some (.bool PB))
          (first | (with_reducible assumption) | ((try dsimp only); (repeat' (with_reducible apply And.intro)) <;> go_simp))
          (fail)
        all_goals
          go_wp2_with (at_builtin; refine wpList_append_own _ rfl _ _ 38 rfl w.heap.size 45 i0 (.agg #[.int .i64 0, .int .i64 0, .int .i64 0, .int .i64 0, .bool false, .bool false, .int .i64 0]) 7 56 Tryd.underlying38 hi hz0 hz1 hz2 rfl (by decide) v (plL (l.take i) (M.take i)).length ((plL (l.take i) (M.take i)).flatMap plE) rfl (show Row plE 45 7 w.heap.size _ v (plL (l.take i) (M.take i)) from by repeat' (first | (with_reducible exact hR.out) | (with_reducible refine Row.al ?_ _) | (with_reducible refine Row.drw ?_) | (with_reducible refine Row.farN ?_ RL.out _ _))) ⟨wr.heap.size + 1, 0, none⟩ 1 1 [.int .i64 t, .int .i64 s, .int .i64 o, .int .i64 K, .bool PB, .bool true, .int .i64 (al)] rfl rfl (new_add _ _ [.int .i64 t, .int .i64 s, .int .i64 o, .int .i64 K, .bool PB, .bool true, .int .i64 (al)] _ (by simp [go_sem])) (by simp [Value.oneCell']) (by unfold maxLen; rw [HLT.out]; omega) (by rw [HLT.out]; omega) (by simp [go_sem]; omega) ?_; intro v' w6 hown' hgrow _)
          have RN := Lib.hid (Row.more (enc := plE) (M := plL (l.take i) (M.take i)) (x := plO ⟨t, s, al, o, true, sh⟩ (K, PB)) hown')
          have gN : G w w6 := by
            refine Below.grown (B := w.heap.size) ?_ hgrow ?_ (fun k hk => hR.out.own k hk)
            · show G w _
              (repeat' (first | (with_reducible exact G.refl _) | (with_reducible assumption) | (with_reducible refine G.drewN ?_ _) | (with_reducible refine G.drew ?_) | (with_reducible refine G.alloc ?_ _) | (with_reducible refine G.setCell ?_ (by first | (with_reducible exact Nat.le_refl _) | (simp; done) | (simp; omega) | omega) _) | (with_reducible refine G.trans ?_ (by assumption))))
            · simp [go_sem]; omega
          go_roundg (n - (i + 1))
          case measure => have := HQ.out; omega
          case rel => exact ⟨i + 1, v', rfl, by first | rfl | simp, rfl, by omega, Lib.hid (by rw [HX.out]; exact RN.out), gN⟩
    · have hii : i = n := by omega
      subst hii
      have e1 : l.take i = l := by rw [← HN.out, List.take_length]
      have e2 : M.take i = M := by rw [← HM.out, List.take_length]
      rw [e1, e2] at hR
      go_wp2_with fail
      go_ret
      exact ⟨_, rfl, hR.out, gr⟩
end Go.Proofs.YtghlecocnflbnaaDoor
