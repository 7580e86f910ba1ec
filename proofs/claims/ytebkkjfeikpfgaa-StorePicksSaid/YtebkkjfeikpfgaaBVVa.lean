/- Carried over from an earlier seat. -/
import Derived.Test.YtebkkjfeikpfgaaBVUa
import Derived.Test.YtebkkjfeikpfgaaBXA
import Derived.Test.YtebkkjfeikpfgaaBVPh
import Derived.Test.YtebkkjfeikpfgaaBVN
import Derived.Test.YtebkkjfeikpfgaaBVCa
namespace Go.Proofs.Ytebkkjfeikpfgaa
set_option maxRecDepth 100000
set_option maxRecDepth 100000
open Go.RowKit
attribute [local go_sem ↓] Go.wp_at_zero Go.wp_at_succ

/-- A value with where its rows lie. -/
structure At where
  t : V
  A : Option Addr
  c : Nat
  A' : Option Addr
  c' : Nat
def At.In (x : At) (w : World) (d : Nat) : Prop := Rd w 0 w.heap.size d x.t x.A x.c x.A' x.c'
theorem At.In.next {x : At} {a b : World} {d : Nat} (h : x.In a d) (hb : Below a.heap.size a b) : x.In b d := Rd.next h hb
/-- A parameter's box. -/
def Bx (w : World) (g : Nat) (x : At) : Prop := Cell w g (.int .i64 x.t.k) (.int .i64 x.t.n) (.string x.t.s) (.slice x.A x.t.l.length x.c) (.slice x.A' x.t.m.length x.c')
theorem Bx.next {a b : World} {g : Nat} {x : At} (h : Bx a g x) (hb : Below a.heap.size a b) : Bx b g x := Cell.next hb h
theorem Bx.new (w : World) (x : At) : Bx (w.alloc (.cells #[.int .i64 x.t.k, .int .i64 x.t.n, .string x.t.s, .slice x.A x.t.l.length x.c, .slice x.A' x.t.m.length x.c'] 82)) w.heap.size x := Cell.new w _ _ _ _ _
abbrev At.v (x : At) : Value := .agg #[.int .i64 x.t.k, .int .i64 x.t.n, .string x.t.s, .slice x.A x.t.l.length x.c, .slice x.A' x.t.m.length x.c']

end Go.Proofs.Ytebkkjfeikpfgaa


