import Derived.Test.YtghlecocnflbnaaDoorA6
import Derived.BigRegion
/-! Accidentals: the reference's notes as the program's. -/
namespace Go.Proofs.YtghlecocnflbnaaDoor
open Go.RowKit
attribute [local go_sem] World.cell?_alloc_some

def ntE (n : Nt) : List Value := [.int .i64 n.t, .int .i64 n.st, .int .i64 n.al, .int .i64 n.oc, .bool n.hd, .int .i64 n.sh]
theorem ntE_len (n : Nt) : (ntE n).length = 6 := rfl
theorem nInfo : (Tryd.prog.info? 65).map (fun i => (i.zero, i.size, i.bytes)) = some (some (.agg #[.int .i64 0, .int .i64 0, .int .i64 0, .int .i64 0, .bool false, .int .i64 0]), 6, 48) := by kernel_rfl
theorem Row.nts {e : TypeId} {base : Nat} {w : World} {v : Value} {l : List Nt} (h : Row ntE e 6 base w v l) : ∃ a c, v = .slice a l.length c ∧ NtsAt w a l := by
  rcases h.cells ntE_len with ⟨rfl, rfl⟩ | ⟨g, cap, rfl, _, _, _, hc⟩
  · exact ⟨none, 0, rfl, .inl rfl⟩
  · refine ⟨_, _, rfl, .inr ⟨g, 0, rfl, fun i n hn => ?_⟩⟩
    rw [Nat.zero_add]
    exact ⟨(hc i n hn 0 _ rfl).1, (hc i n hn 1 _ rfl).1, (hc i n hn 2 _ rfl).1, (hc i n hn 3 _ rfl).1, (hc i n hn 4 _ rfl).1, (hc i n hn 5 _ rfl).1⟩

set_option maxRecDepth 100000 in
set_option maxHeartbeats 6400000 in
theorem own_any (a : Option Addr) (l : List Nt) (n c : Nat) (w : World) (hn : l.length = n) (hl : n ≤ 3000) (h1 : NtsAt w a l) :
    Calls Tryd.prog 15 #[.slice a n c] w fun e w' => ∃ v, e = .returned v ∧ Row ntE 65 6 w.heap.size w' v l ∧ G w w' := by
  subst hn
  obtain ⟨i0, hi, hz0, hz1, hz2⟩ := info_parts' nInfo
  have H1 := Lib.hid h1
  clear h1
  go_enter Tryd.func15, Tryd.ntmps15
  go_wp2_with fail
  go_loopg [3, 4] l.length (fun q y x wr => ∃ (i : Nat) (v : Value), v = y ∧ x = .int .i64 i ∧ q = l.length - i ∧ i ≤ l.length ∧ Hid (Row ntE 65 6 w.heap.size wr v (l.take i)) ∧ G w wr)
  case atStart => exact ⟨0, _, rfl, rfl, by omega, by omega, Lib.hid (by simpa using Row.nil (enc := ntE) w), by (repeat' (first | (with_reducible exact G.refl _) | (with_reducible assumption) | (with_reducible refine G.drewN ?_ _) | (with_reducible refine G.drew ?_) | (with_reducible refine G.alloc ?_ _) | (with_reducible refine G.setCell ?_ (by first | (with_reducible exact Nat.le_refl _) | (simp; done) | (simp; omega) | omega) _) | (with_reducible refine G.trans ?_ (by assumption))))⟩
  case round =>
    obtain ⟨i, v, rfl, rfl, hq, hi', hR, gr⟩ := hrel
    have HQ := Lib.hid hq
    clear hq
    by_cases hin : i < l.length
    · obtain ⟨⟨t, s, al, o, hd, sh⟩, hp⟩ : ∃ c, l[i]? = some c := ⟨l[i], List.getElem?_eq_getElem hin⟩
      rcases H1.out with hz | ⟨bl, of, rfl, fc⟩
      · rw [hz] at hin; exact absurd hin (by simp)
      obtain ⟨x0, x1, x2, x3, x4, x5⟩ := (fc i _ hp).later gr
      dsimp only at x0 x1 x2 x3 x4 x5
      have HP := Lib.hid hp
      have HX := Lib.hid (show l.take (i + 1) = l.take i ++ [⟨t, s, al, o, hd, sh⟩] by rw [List.take_add_one, hp]; rfl)
      have HLT := Lib.hid (show (l.take i).length = i by rw [List.length_take]; omega)
      have b1 : (0 : Int) ≤ (i : Int) := by omega
      have b2 : (i : Int) < (l.length : Int) := by omega
      have q1 := IntWalk.i64_in ((i : Int) + 1) (by omega)
      have hsz := gr.size
      have FC := Lib.hid fc
      clear fc hp
      go_wp2_with fail
      go_region_held3 (fun w' => w'.cell? ⟨bl, of + i * 6, none⟩ = some (.int .i64 t) ∧ w'.cell? ⟨bl, of + i * 6 + 1, none⟩ = some (.int .i64 s) ∧ w'.cell? ⟨bl, of + i * 6 + 2, none⟩ = some (.int .i64 al) ∧ w'.cell? ⟨bl, of + i * 6 + 3, none⟩ = some (.int .i64 o) ∧ w'.cell? ⟨bl, of + i * 6 + 4, none⟩ = some (.bool hd) ∧ w'.cell? ⟨bl, of + i * 6 + 5, none⟩ = some (.int .i64 sh))
        (first | (with_reducible assumption) | ((try dsimp only); (repeat' (with_reducible apply And.intro)) <;> go_simp))
        (first
          | (refine step_append_lies _ rfl _ _ 28 rfl w.heap.size 65 i0 (.agg #[.int .i64 0, .int .i64 0, .int .i64 0, .int .i64 0, .bool false, .int .i64 0]) 6 48 Tryd.underlying28 hi hz0 hz1 hz2 rfl (by decide) v (l.take i).length ((l.take i).flatMap ntE) rfl (hR.out.later (by (repeat' (first | (with_reducible exact G.refl _) | (with_reducible assumption) | (with_reducible refine G.drewN ?_ _) | (with_reducible refine G.drew ?_) | (with_reducible refine G.alloc ?_ _) | (with_reducible refine G.setCell ?_ (by first | (with_reducible exact Nat.le_refl _) | (simp; done) | (simp; omega) | omega) _) | (with_reducible refine G.trans ?_ (by assumption)))))) ⟨wr.heap.size, 0, none⟩ 1 1 [.int .i64 t, .int .i64 s, .int .i64 al, .int .i64 o, .bool hd, .int .i64 sh] rfl rfl (new_add _ _ [.int .i64 t, .int .i64 s, .int .i64 al, .int .i64 o, .bool hd, .int .i64 sh] _ (by simp)) (by simp [Value.oneCell']) (by omega) (by unfold maxLen; rw [HLT.out]; omega) (by rw [HLT.out]; omega) (by simp; omega) _ rfl ?_; intro gb cap2 w8 hown' hgrow _ _; have RN := Lib.hid (Row.more (enc := ntE) (M := l.take i) (x := ⟨t, s, al, o, hd, sh⟩) hown'); have gN : G w w8 := Below.grown (B := w.heap.size) (show G w _ by (repeat' (first | (with_reducible exact G.refl _) | (with_reducible assumption) | (with_reducible refine G.drewN ?_ _) | (with_reducible refine G.drew ?_) | (with_reducible refine G.alloc ?_ _) | (with_reducible refine G.setCell ?_ (by first | (with_reducible exact Nat.le_refl _) | (simp; done) | (simp; omega) | omega) _) | (with_reducible refine G.trans ?_ (by assumption))))) hgrow (by simp; omega) (fun k hk => hR.out.own k hk); obtain ⟨y0, y1, y2, y3, y4, y5⟩ := (FC.out i _ HP.out).later gN; dsimp only at y0 y1 y2 y3 y4 y5))
      all_goals
        go_wp2_with fail
        go_roundg (l.length - (i + 1))
        case measure => have := HQ.out; omega
        case rel => exact ⟨i + 1, _, rfl, by go_num, rfl, by omega, Lib.hid (by rw [HX.out]; rw [HLT.out] at RN; exact RN.out), gN⟩
    · have hii : i = l.length := by omega
      subst hii
      rw [List.take_length] at hR
      go_wp2_with fail
      go_ret
      exact ⟨_, rfl, hR.out, gr⟩
end Go.Proofs.YtghlecocnflbnaaDoor
