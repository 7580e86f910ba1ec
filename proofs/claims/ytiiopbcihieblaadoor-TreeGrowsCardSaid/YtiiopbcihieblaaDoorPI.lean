/- Carried over from an earlier seat. -/
import Derived.Test.YtiiopbcihieblaaDoorPC
import Derived.Test.YtiiopbcihieblaaDoorVRr
import Derived.IntWalk
namespace Go.Proofs.YtiiopbcihieblaaDoor
set_option maxRecDepth 100000
set_option maxRecDepth 100000
set_option maxRecDepth 100000
set_option maxRecDepth 100000
open Go.RowKit Go.Sort

theorem boxesPP (w : World) (x y : Pt) (W : World) (hW : (w.alloc (.cells #[.int .i64 x.t.k, .slice x.A x.t.v.length x.c, .slice x.A' x.t.p.length x.c'] 35)).alloc (.cells #[.int .i64 y.t.k, .slice y.A y.t.v.length y.c, .slice y.A' y.t.p.length y.c'] 35) = W) :
    BP W w.heap.size x ∧ BP W (w.heap.size + 1) y ∧ W.heap.size = w.heap.size + 1 + 1 ∧ Below w.heap.size w W := by
  subst hW
  have b := below_new (w.alloc (.cells #[.int .i64 x.t.k, .slice x.A x.t.v.length x.c, .slice x.A' x.t.p.length x.c'] 35)) (.cells #[.int .i64 y.t.k, .slice y.A y.t.v.length y.c, .slice y.A' y.t.p.length y.c'] 35)
  have c := BP.new (w.alloc (.cells #[.int .i64 x.t.k, .slice x.A x.t.v.length x.c, .slice x.A' x.t.p.length x.c'] 35)) y
  rw [size_alloc] at c
  exact ⟨(BP.new w x).next b, c, by simp, below_new2 _ _ _⟩

end Go.Proofs.YtiiopbcihieblaaDoor



