/- Carried over from an earlier seat. -/
import Derived.Test.YtiiccefnfepccaaVG
import Derived.Shelf.SlSortCmp.KitK
import Derived.BigRegion
import Derived.Deep.AppendLies
import Derived.Deep.RegionHeld3
namespace Go.Proofs.Ytiiccefnfepccaa
set_option maxRecDepth 100000
set_option maxRecDepth 100000
open Go.RowKit Go.Sort

end Go.Proofs.Ytiiccefnfepccaa

namespace Go.Proofs.Ytiiccefnfepccaa
set_option maxRecDepth 100000
set_option maxRecDepth 100000
open Go.RowKit Go.Sort

theorem below_drewN (B : Nat) (w : World) (n : Nat) : Below B w (w.drewN n) := ⟨rfl, rfl, rfl, Nat.le_refl _, fun _ _ => rfl⟩
end Go.Proofs.Ytiiccefnfepccaa

namespace Go.Proofs.Ytiiccefnfepccaa
set_option maxRecDepth 100000
set_option maxRecDepth 100000
open Go.RowKit Go.Sort

end Go.Proofs.Ytiiccefnfepccaa

namespace Go.Proofs.Ytiiccefnfepccaa
set_option maxRecDepth 100000
open Go.RowKit

section
variable {P : Program} {ops : Array Oper} {Q : Exit → Act → World → Prop} {md : Region.Mode} {S : World → Prop} {N : List Nat}

/-- None of these has come up. -/
def bare (N : List Nat) (listed : Array Bool) : Bool := N.all fun n => !listed.getD n true
/-- In whatever order the rest comes up; and as long as none of N has, S holds behind each. -/
def anyN (P : Program) (md : Region.Mode) (ops : Array Oper) (Q : Exit → Act → World → Prop) (S : World → Prop) (N : List Nat) : Nat → Array Bool → Act → World → Prop
  | 0, listed, a, w => Region.ready md ops listed = [] ∧ Q .normal a w
  | f + 1, listed, a, w => (Region.ready md ops listed = [] → Q .normal a w) ∧
      ∀ i ∈ Region.ready md ops listed, wpOp P ops Q i (fun a' w' => (bare N (listed.setIfInBounds i true) = true → S w') ∧ anyN P md ops Q S N f (listed.setIfInBounds i true) a' w') a w
theorem anyN_any : ∀ (f : Nat) (listed : Array Bool) (a : Act) (w : World), anyN P md ops Q S N f listed a w → wpAny P md ops Q f listed a w
  | 0, _, _, _, h => h
  | f + 1, _, _, _, h => ⟨h.1, fun i hi => wpOp_mono (fun _ _ k => anyN_any f _ _ _ k.2) (h.2 i hi)⟩

/-- The beginning. -/
theorem region_anyN (S : World → Prop) (N : List Nat) {id : Nat} {a : Act} {w : World} (hm : P.follows .mixedOrders = true) (hS : S w.drew)
    (h : S w.drew → anyN P .any ops Q S N ops.size (Array.replicate ops.size false) a w.drew) : (Code.region id ops true).wp P Q a w :=
  wp_region_any hm (anyN_any _ _ _ _ (h hS))
end
end Go.Proofs.Ytiiccefnfepccaa

