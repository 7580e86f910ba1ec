/- Carried over from the seat of layer 2. -/
import Derived.Test.YtciipggccjiaiaaVVb
import Derived.Test.YtciipggccjiaiaaVI
import Derived.Test.YtciipggccjiaiaaVJ
import Derived.Test.YtciipggccjiaiaaVPh
import Derived.Deep.DeepCutAuto
import Derived.Deep.Cut
import Derived.IntWalk
namespace Go.Proofs.Ytciipggccjiaiaa
set_option maxRecDepth 100000
open Go.RowKit
attribute [local go_sem ↓] Go.wp_at_zero Go.wp_at_succ

theorem At.In.up {x : At} {w : World} {n m : Nat} (h : x.In w n) (hm : n ≤ m) : x.In w m := Rd.more h (Nat.le_refl _) (Nat.le_refl _) hm
end Go.Proofs.Ytciipggccjiaiaa

