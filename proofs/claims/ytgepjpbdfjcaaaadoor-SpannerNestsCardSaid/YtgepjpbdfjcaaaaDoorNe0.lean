import Derived.Test.YtgepjpbdfjcaaaaDoorNestMath
import Derived.Test.YtgepjpbdfjcaaaaDoorKnown
import Derived.Test.YtgepjpbdfjcaaaaDoorS4
import Derived.Test.YtgepjpbdfjcaaaaDoorS10
import Derived.Test.YtgepjpbdfjcaaaaDoorS13
import Derived.Test.YtgepjpbdfjcaaaaDoorS15
import Derived.BigRegion
/-! Spanners: nests: a loop's body, out of the program. -/
namespace Go.Proofs.YtgepjpbdfjcaaaaDoor
open Go.RowKit
attribute [local go_sem] World.cell?_alloc_some

/-- the body of the first loop of a code -/
def firstLoop : Code → Option Code
  | .loop c => some c
  | .seq a b => match firstLoop a with
    | some c => some c
    | none => firstLoop b
  | .block _ c => firstLoop c
  | .scope c => firstLoop c
  | .cond _ a b => match firstLoop a with
    | some c => some c
    | none => firstLoop b
  | _ => none
theorem rCovers_k (x : Sp) (p : Pl) (K : Int) (w : World) (h : K = x.k) : Calls Tryd.prog 25 #[.agg #[.int .i64 K, .int .i64 x.f.m, .int .i64 x.f.a, .int .i64 x.f.s, .int .i64 x.f.v, .int .i64 x.t.m, .int .i64 x.t.a, .int .i64 x.t.s, .int .i64 x.t.v], .agg #[.int .i64 p.m, .int .i64 p.a, .int .i64 p.s, .int .i64 p.v]] w fun e w' => e = .returned (.bool (decide (Cov x p))) ∧ G w w' := by
  subst h
  exact rCovers_any x p w
theorem bt1 {b : Bool} (h : (!b) = false) : b = true := by simpa using h
theorem bt2 {b : Bool} (h : ¬ b = true) : b = false := by simpa using h
theorem bt3 {b : Bool} (h : (!b) = true) : b = false := by simpa using h
end Go.Proofs.YtgepjpbdfjcaaaaDoor
