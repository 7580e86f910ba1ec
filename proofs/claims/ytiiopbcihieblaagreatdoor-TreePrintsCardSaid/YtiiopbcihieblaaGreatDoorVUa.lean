/- Carried over from an earlier seat. -/
import Derived.Test.YtiiopbcihieblaaGreatDoorVM
import Derived.Test.YtiiopbcihieblaaGreatDoorVG
import Derived.Test.YtiiopbcihieblaaGreatDoorVJ
import Derived.Test.YtiiopbcihieblaaGreatDoorVRc
namespace Go.Proofs.YtiiopbcihieblaaGreatDoor
set_option maxRecDepth 100000
set_option maxRecDepth 100000
set_option maxRecDepth 100000
set_option maxRecDepth 100000
open Go.RowKit Go.Sort
attribute [local go_sem ↓] Go.wp_at_zero Go.wp_at_succ

/-- Steps of a chain of worlds. -/
theorem Blk.next {a b : World} {g n : Nat} (hb : Below a.heap.size a b) (h : Blk a g n) : Blk b g n := h.below hb h.lt
theorem Cell.next {a b : World} {g : Nat} {v0 v1 v2 v3 v4 : Value} (hb : Below a.heap.size a b) (h : Cell a g v0 v1 v2 v3 v4) : Cell b g v0 v1 v2 v3 v4 := h.below hb h.blk.lt
end Go.Proofs.YtiiopbcihieblaaGreatDoor




