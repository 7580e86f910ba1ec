/- Carried over from an earlier seat. -/
import Derived.Test.YtiiopbcihieblaaGreatDoorVVa
import Derived.Test.YtiiopbcihieblaaGreatDoorVRc
import Derived.Test.YtiiopbcihieblaaGreatDoorVVp
import Derived.Test.YtiiopbcihieblaaGreatDoorVG
import Derived.Test.YtiiopbcihieblaaGreatDoorVPh
import Derived.Deep.DeepCutAuto
import Derived.Deep.Cut
import Derived.IntWalk
namespace Go.Proofs.YtiiopbcihieblaaGreatDoor
set_option maxRecDepth 100000
set_option maxRecDepth 100000
set_option maxRecDepth 100000
set_option maxRecDepth 100000
open Go.RowKit
attribute [local go_sem ↓] Go.wp_at_zero Go.wp_at_succ

/-- Two values in their boxes. -/
structure B2 (w0 w : World) (d g1 g2 : Nat) (x y : At) : Prop where
  b1 : Bx w g1 x
  b2 : Bx w g2 y
  i1 : x.In w d
  i2 : y.In w d
  bel : Below w0.heap.size w0 w
theorem B2.next {w0 a b : World} {d g1 g2 : Nat} {x y : At} (h : B2 w0 a d g1 g2 x y) (hb : Below a.heap.size a b) : B2 w0 b d g1 g2 x y :=
  ⟨h.b1.next hb, h.b2.next hb, h.i1.next hb, h.i2.next hb, bnext h.bel hb⟩
theorem B2.new (w : World) (d : Nat) (x y : At) (hx : x.In w d) (hy : y.In w d) (W : World) (hW : (w.alloc (.cells #[.int .i64 x.t.k, .int .i64 x.t.n, .string x.t.s, .slice x.A x.t.l.length x.c, .slice x.A' x.t.m.length x.c'] 39)).alloc (.cells #[.int .i64 y.t.k, .int .i64 y.t.n, .string y.t.s, .slice y.A y.t.l.length y.c, .slice y.A' y.t.m.length y.c'] 39) = W) :
    B2 w W d w.heap.size (w.heap.size + 1) x y := by
  subst hW
  have h2 := Bx.new (w.alloc (.cells #[.int .i64 x.t.k, .int .i64 x.t.n, .string x.t.s, .slice x.A x.t.l.length x.c, .slice x.A' x.t.m.length x.c'] 39)) y
  rw [size_alloc] at h2
  exact ⟨(Bx.new w x).next (below_new _ _), h2, hx.next (below_new2 _ _ _), hy.next (below_new2 _ _ _), below_new2 _ _ _⟩
theorem refCmp_at (w : World) (d : Nat) (x y : At) (hx : x.In w d) (hy : y.In w d) : Calls Tryz.prog 136 #[x.v, y.v] w fun e w' => e = .returned (.int .i64 (cmpV 12 x.t y.t)) ∧ Below w.heap.size w w' :=
  refCmp_any w d d x.t y.t _ _ _ _ _ _ _ _ hx hy

end Go.Proofs.YtiiopbcihieblaaGreatDoor

namespace Go.Proofs.YtiiopbcihieblaaGreatDoor
set_option maxRecDepth 100000
set_option maxRecDepth 100000
set_option maxRecDepth 100000
set_option maxRecDepth 100000
open Go.RowKit
attribute [local go_sem ↓] Go.wp_at_zero Go.wp_at_succ

theorem At.In.up {x : At} {w : World} {n m : Nat} (h : x.In w n) (hm : n ≤ m) : x.In w m := Rd.more h (Nat.le_refl _) (Nat.le_refl _) hm
theorem check_at (w : World) (d : Nat) (x : At) (hx : x.In w d) : Calls Tryz.prog 91 #[x.v] w fun e w' => e = .returned (.int .i64 (errI (okV 12 x.t))) ∧ Below w.heap.size w w' := check_any w d x.t _ _ _ _ hx
end Go.Proofs.YtiiopbcihieblaaGreatDoor




