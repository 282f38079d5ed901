import Derived.Test.YtabaiklagobimaaTIdx
/-! Tuplets, in plain terms: events that are deleted. -/
namespace Go.Proofs.Ytabaiklagobimaa

/-- how many of the events before an event are left -/
def mv (at_ cnt e : Int) : Int := min e (max at_ (e - cnt))
theorem mv_zero {at_ cnt : Int} (h0 : 0 ≤ at_) (_hc : 0 ≤ cnt) : mv at_ cnt 0 = 0 := by unfold mv; omega
theorem mv_in {at_ cnt e : Int} (h : at_ ≤ e) (h2 : e < at_ + cnt) : mv at_ cnt (e + 1) = mv at_ cnt e := by unfold mv; omega
theorem mv_out {at_ cnt e : Int} (_hc : 0 ≤ cnt) (h : ¬ (at_ ≤ e ∧ e < at_ + cnt)) : mv at_ cnt (e + 1) = mv at_ cnt e + 1 := by unfold mv; omega
theorem mv_mono {at_ cnt x y : Int} (_hc : 0 ≤ cnt) (h : x ≤ y) : mv at_ cnt x ≤ mv at_ cnt y := by unfold mv; omega
theorem mv_bd {at_ cnt e : Int} (h0 : 0 ≤ at_) (he : 0 ≤ e) : 0 ≤ mv at_ cnt e ∧ mv at_ cnt e ≤ e := by unfold mv; omega
/-- the tuplet afterwards; it is dropped where its count is 0 -/
def delT (at_ cnt : Int) (t : Tu) : Tu := ⟨mv at_ cnt t.f, mv at_ cnt (en t) - mv at_ cnt t.f, t.a, t.n⟩
/-- its count up to an event, and its first event so far -/
def cN (at_ cnt : Int) (t : Tu) (e : Int) : Int := mv at_ cnt (min e (en t)) - mv at_ cnt (min e t.f)
def fN (at_ cnt : Int) (t : Tu) (e : Int) : Int := if cN at_ cnt t e = 0 then 0 else mv at_ cnt t.f
theorem cN_zero {at_ cnt : Int} {t : Tu} (hf : 0 ≤ t.f) (_hc : 1 ≤ t.c) : cN at_ cnt t 0 = 0 := by unfold cN en mv; omega
theorem cN_nn {at_ cnt : Int} {t : Tu} (hc : 1 ≤ t.c) (_h : 0 ≤ cnt) (e : Int) : 0 ≤ cN at_ cnt t e := by unfold cN en mv; omega
theorem cN_skip {at_ cnt : Int} {t : Tu} {e : Int} (_hc : 1 ≤ t.c) (h : at_ ≤ e ∧ e < at_ + cnt) : cN at_ cnt t (e + 1) = cN at_ cnt t e := by unfold cN en mv; omega
theorem cN_not {at_ cnt : Int} {t : Tu} {e : Int} (hc : 1 ≤ t.c) (h : ¬ InT t e) : cN at_ cnt t (e + 1) = cN at_ cnt t e := by unfold InT en at h; unfold cN en mv; omega
theorem cN_more {at_ cnt : Int} {t : Tu} {e : Int} (h0 : 0 ≤ cnt) (h : ¬ (at_ ≤ e ∧ e < at_ + cnt)) (hi : InT t e) : cN at_ cnt t (e + 1) = cN at_ cnt t e + 1 := by unfold InT en at hi; unfold cN en mv; omega
/-- the first one that is left stands where the tuplet begins afterwards -/
theorem cN_first {at_ cnt : Int} {t : Tu} {e : Int} (h0 : 0 ≤ cnt) (_h : ¬ (at_ ≤ e ∧ e < at_ + cnt)) (hi : InT t e) (hz : cN at_ cnt t e = 0) : mv at_ cnt e = mv at_ cnt t.f := by unfold InT en at hi; unfold cN en mv at hz; unfold mv; omega
theorem cN_all {at_ cnt ev : Int} {t : Tu} (hi : InR ev t) : cN at_ cnt t ev = (delT at_ cnt t).c := by
  obtain ⟨h1, h2, h3, _⟩ := hi
  unfold cN delT
  dsimp only
  rw [Int.min_eq_right (by unfold en; omega), Int.min_eq_right (by omega)]
theorem fN_all {at_ cnt ev : Int} {t : Tu} (hi : InR ev t) (h : (delT at_ cnt t).c ≠ 0) : fN at_ cnt t ev = (delT at_ cnt t).f := by
  unfold fN
  rw [cN_all hi, if_neg h]
  rfl
theorem fN_skip {at_ cnt : Int} {t : Tu} {e : Int} (h : cN at_ cnt t (e + 1) = cN at_ cnt t e) : fN at_ cnt t (e + 1) = fN at_ cnt t e := by unfold fN; rw [h]
theorem fN_more {at_ cnt : Int} {t : Tu} {e : Int} (h0 : 0 ≤ cnt) (hc : 1 ≤ t.c) (h : ¬ (at_ ≤ e ∧ e < at_ + cnt)) (hi : InT t e) : fN at_ cnt t (e + 1) = if cN at_ cnt t e = 0 then mv at_ cnt e else fN at_ cnt t e := by
  have h1 := cN_more h0 h hi
  have h2 := cN_nn (at_ := at_) hc h0 e
  unfold fN
  rw [h1, if_neg (by omega)]
  by_cases z : cN at_ cnt t e = 0
  · rw [if_pos z, cN_first h0 h hi z]
  · rw [if_neg z, if_neg z]
/-- deleting what was inserted yields the same -/
theorem del_ins {at_ cnt : Int} {t : Tu} (hc : 0 ≤ cnt) (h1 : 1 ≤ t.c) : delT at_ cnt (insT at_ cnt t) = t := by
  have hf := ins_f at_ cnt t
  have he := ins_e (at_ := at_) (cnt := cnt) h1
  have ha := ins_a at_ cnt t
  unfold delT
  rw [hf, he, ha.1, ha.2]
  have e1 : mv at_ cnt (fi at_ cnt t.f) = t.f := by unfold mv fi; split <;> omega
  have e2 : mv at_ cnt (ei at_ cnt (en t)) = en t := by unfold mv ei; split <;> omega
  rw [e1, e2]
  unfold en
  rw [show t.f + t.c - t.f = t.c by omega]
end Go.Proofs.Ytabaiklagobimaa
