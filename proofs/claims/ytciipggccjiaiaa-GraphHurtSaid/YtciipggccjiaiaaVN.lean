/- Carried over from the seat of layer 2. -/
import Derived.Test.YtciipggccjiaiaaVI
import Derived.BigRegion
namespace Go.Proofs.Ytciipggccjiaiaa
set_option maxRecDepth 100000
open Go.RowKit Go.Sort

theorem below_drewN (B : Nat) (w : World) (n : Nat) : Below B w (w.drewN n) := ⟨rfl, rfl, rfl, Nat.le_refl _, fun _ _ => rfl⟩
end Go.Proofs.Ytciipggccjiaiaa

