/- Carried over from the seat of layer 2. -/
import Derived.Test.YtciipggccjiaiaaVVa
import Derived.Test.YtciipggccjiaiaaVRs
namespace Go.Proofs.Ytciipggccjiaiaa
set_option maxRecDepth 100000
open Go.RowKit
attribute [local go_sem ↓] Go.wp_at_zero Go.wp_at_succ

theorem refCmp_at (w : World) (d : Nat) (x y : At) (hx : x.In w d) (hy : y.In w d) : Calls Try.prog 76 #[x.v, y.v] w fun e w' => e = .returned (.int .i64 (cmpV 12 x.t y.t)) ∧ Below w.heap.size w w' :=
  refCmp_any w d d x.t y.t _ _ _ _ _ _ _ _ hx hy

end Go.Proofs.Ytciipggccjiaiaa

