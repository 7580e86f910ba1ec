/- Carried over from an earlier seat. -/
import Derived.Test.YtebkkjfeikpfgaaBXA
import Derived.BigRegion
namespace Go.Proofs.Ytebkkjfeikpfgaa
set_option maxRecDepth 100000
set_option maxRecDepth 100000
open Go.RowKit Go.Sort

theorem below_drewN (B : Nat) (w : World) (n : Nat) : Below B w (w.drewN n) := ⟨rfl, rfl, rfl, Nat.le_refl _, fun _ _ => rfl⟩
end Go.Proofs.Ytebkkjfeikpfgaa


