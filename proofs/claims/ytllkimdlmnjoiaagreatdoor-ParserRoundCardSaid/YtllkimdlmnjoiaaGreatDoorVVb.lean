/- Carried over from an earlier seat. -/
import Derived.Test.YtllkimdlmnjoiaaGreatDoorVG
import Derived.Shelf.SlSortCmp.KitK
import Derived.BigRegion
import Derived.Deep.AppendLies
import Derived.Deep.RegionHeld3
import Derived.Test.YtllkimdlmnjoiaaGreatDoorVJ
import Derived.Test.YtllkimdlmnjoiaaGreatDoorVRc
import Derived.Test.YtllkimdlmnjoiaaGreatDoorVPh
import Derived.Deep.DeepCutAuto
import Derived.Deep.Cut
import Derived.IntWalk
namespace Go.Proofs.YtllkimdlmnjoiaaGreatDoor
set_option maxRecDepth 100000
set_option maxRecDepth 100000
set_option maxRecDepth 100000
set_option maxRecDepth 100000
set_option maxRecDepth 100000
open Go.RowKit Go.Sort

end Go.Proofs.YtllkimdlmnjoiaaGreatDoor

namespace Go.Proofs.YtllkimdlmnjoiaaGreatDoor
set_option maxRecDepth 100000
set_option maxRecDepth 100000
set_option maxRecDepth 100000
set_option maxRecDepth 100000
set_option maxRecDepth 100000
open Go.RowKit Go.Sort

theorem below_drewN (B : Nat) (w : World) (n : Nat) : Below B w (w.drewN n) := ⟨rfl, rfl, rfl, Nat.le_refl _, fun _ _ => rfl⟩
end Go.Proofs.YtllkimdlmnjoiaaGreatDoor

namespace Go.Proofs.YtllkimdlmnjoiaaGreatDoor
set_option maxRecDepth 100000
set_option maxRecDepth 100000
set_option maxRecDepth 100000
set_option maxRecDepth 100000
set_option maxRecDepth 100000
open Go.RowKit Go.Sort

end Go.Proofs.YtllkimdlmnjoiaaGreatDoor

namespace Go.Proofs.YtllkimdlmnjoiaaGreatDoor
set_option maxRecDepth 100000
set_option maxRecDepth 100000
set_option maxRecDepth 100000
set_option maxRecDepth 100000
open Go.RowKit

section
variable {P : Program} {ops : Array Oper} {Q : Exit → Act → World → Prop} {md : Region.Mode} {S : World → Prop} {N : List Nat}

end
end Go.Proofs.YtllkimdlmnjoiaaGreatDoor





/- Carried over from an earlier seat. -/
namespace Go.Proofs.YtllkimdlmnjoiaaGreatDoor
set_option maxRecDepth 100000
set_option maxRecDepth 100000
set_option maxRecDepth 100000
set_option maxRecDepth 100000
set_option maxRecDepth 100000
open Go.RowKit Go.Sort
attribute [local go_sem ↓] Go.wp_at_zero Go.wp_at_succ

theorem Cell.next {a b : World} {g : Nat} {v0 v1 v2 v3 v4 : Value} (hb : Below a.heap.size a b) (h : Cell a g v0 v1 v2 v3 v4) : Cell b g v0 v1 v2 v3 v4 := h.below hb h.blk.lt
end Go.Proofs.YtllkimdlmnjoiaaGreatDoor






/- Carried over from an earlier seat. -/
namespace Go.Proofs.YtllkimdlmnjoiaaGreatDoor
set_option maxRecDepth 100000
set_option maxRecDepth 100000
set_option maxRecDepth 100000
set_option maxRecDepth 100000
set_option maxRecDepth 100000
open Go.RowKit
attribute [local go_sem ↓] Go.wp_at_zero Go.wp_at_succ

/-- A value with where its rows lie. -/
structure At where
  t : V
  A : Option Addr
  c : Nat
  A' : Option Addr
  c' : Nat
def At.cs (x : At) : List Value := [.int .i64 x.t.k, .int .i64 x.t.n, .string x.t.s, .slice x.A x.t.l.length x.c, .slice x.A' x.t.m.length x.c']
def At.In (x : At) (w : World) (d : Nat) : Prop := Rd w 0 w.heap.size d x.t x.A x.c x.A' x.c'
theorem At.In.next {x : At} {a b : World} {d : Nat} (h : x.In a d) (hb : Below a.heap.size a b) : x.In b d := Rd.next h hb
def flatA (l : List At) : List Value := l.flatMap At.cs
/-- A parameter's box. -/
def Bx (w : World) (g : Nat) (x : At) : Prop := Cell w g (.int .i64 x.t.k) (.int .i64 x.t.n) (.string x.t.s) (.slice x.A x.t.l.length x.c) (.slice x.A' x.t.m.length x.c')
theorem Bx.next {a b : World} {g : Nat} {x : At} (h : Bx a g x) (hb : Below a.heap.size a b) : Bx b g x := Cell.next hb h
theorem Bx.new (w : World) (x : At) : Bx (w.alloc (.cells #[.int .i64 x.t.k, .int .i64 x.t.n, .string x.t.s, .slice x.A x.t.l.length x.c, .slice x.A' x.t.m.length x.c'] 77)) w.heap.size x := Cell.new w _ _ _ _ _
abbrev At.v (x : At) : Value := .agg #[.int .i64 x.t.k, .int .i64 x.t.n, .string x.t.s, .slice x.A x.t.l.length x.c, .slice x.A' x.t.m.length x.c']

end Go.Proofs.YtllkimdlmnjoiaaGreatDoor






/- Carried over from an earlier seat. -/
namespace Go.Proofs.YtllkimdlmnjoiaaGreatDoor
set_option maxRecDepth 100000
set_option maxRecDepth 100000
set_option maxRecDepth 100000
set_option maxRecDepth 100000
set_option maxRecDepth 100000
open Go.RowKit

end Go.Proofs.YtllkimdlmnjoiaaGreatDoor






/- Carried over from an earlier seat. -/
namespace Go.Proofs.YtllkimdlmnjoiaaGreatDoor
set_option maxRecDepth 100000
set_option maxRecDepth 100000
set_option maxRecDepth 100000
set_option maxRecDepth 100000
set_option maxRecDepth 100000
open Go.RowKit
attribute [local go_sem ↓] Go.wp_at_zero Go.wp_at_succ

/-- Two values in their boxes. -/
structure B2 (w0 w : World) (d g1 g2 : Nat) (x y : At) : Prop where
  b1 : Bx w g1 x
  b2 : Bx w g2 y
  i1 : x.In w d
  i2 : y.In w d
  bel : Below w0.heap.size w0 w
theorem refCmp_at (w : World) (d : Nat) (x y : At) (hx : x.In w d) (hy : y.In w d) : Calls Tryz.prog 131 #[x.v, y.v] w fun e w' => e = .returned (.int .i64 (cmpV 12 x.t y.t)) ∧ Below w.heap.size w w' :=
  refCmp_any w d d x.t y.t _ _ _ _ _ _ _ _ hx hy

end Go.Proofs.YtllkimdlmnjoiaaGreatDoor

namespace Go.Proofs.YtllkimdlmnjoiaaGreatDoor
set_option maxRecDepth 100000
set_option maxRecDepth 100000
set_option maxRecDepth 100000
set_option maxRecDepth 100000
set_option maxRecDepth 100000
open Go.RowKit
attribute [local go_sem ↓] Go.wp_at_zero Go.wp_at_succ

theorem check_at (w : World) (d : Nat) (x : At) (hx : x.In w d) : Calls Tryz.prog 102 #[x.v] w fun e w' => e = .returned (.int .i64 (errI (okV 12 x.t))) ∧ Below w.heap.size w w' := check_any w d x.t _ _ _ _ hx
end Go.Proofs.YtllkimdlmnjoiaaGreatDoor






