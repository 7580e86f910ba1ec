/- Carried over from an earlier seat. -/
import Derived.Test.YtebkkjfeikpfgaaBVRc
import Derived.Test.YtebkkjfeikpfgaaBVVa
import Derived.Test.YtebkkjfeikpfgaaBXA
import Derived.Test.YtebkkjfeikpfgaaBVPh
import Derived.Deep.DeepCutAuto
import Derived.Deep.Cut
import Derived.IntWalk
namespace Go.Proofs.Ytebkkjfeikpfgaa
set_option maxRecDepth 100000
set_option maxRecDepth 100000
open Go.RowKit Go.Sort

set_option maxHeartbeats 800000 in
theorem refCmp_any (w : World) (da db : Nat) (a b : V) (A : Option Addr) (c : Nat) (A' : Option Addr) (c' : Nat) (D : Option Addr) (e : Nat) (D' : Option Addr) (e' : Nat)
    (ra : Rd w 0 w.heap.size da a A c A' c') (rb : Rd w 0 w.heap.size db b D e D' e') :
    Calls Try.prog 85 #[vl a A c A' c', vl b D e D' e'] w fun x w' => x = .returned (.int .i64 (cmpV 12 a b)) ∧ Below w.heap.size w w' := by
  have RA := Lib.hid (ra.next (below_new2 w (.cells #[.int .i64 a.k, .int .i64 a.n, .string a.s, .slice A a.l.length c, .slice A' a.m.length c'] 82) (.cells #[.int .i64 b.k, .int .i64 b.n, .string b.s, .slice D b.l.length e, .slice D' b.m.length e'] 82)))
  have RB := Lib.hid (rb.next (below_new2 w (.cells #[.int .i64 a.k, .int .i64 a.n, .string a.s, .slice A a.l.length c, .slice A' a.m.length c'] 82) (.cells #[.int .i64 b.k, .int .i64 b.n, .string b.s, .slice D b.l.length e, .slice D' b.m.length e'] 82)))
  clear ra rb
  unfold vl
  go_enter Try.func85, Try.ntmps85
  go_wp2_with fail
  refine (rcmp_any 12 _ da db a b _ _ _ _ _ _ _ _ 1 (by omega) (by omega) RA.out RB.out).mono ?_
  rintro x w1 ⟨rfl, hb1⟩
  have HB := Lib.hid (bnext (below_new2 _ _ _) hb1)
  clear hb1
  go_wp2
  go_ret
  exact ⟨by rfl, HB.out⟩

set_option maxHeartbeats 800000 in
theorem refSame_any (w : World) (da db : Nat) (a b : V) (A : Option Addr) (c : Nat) (A' : Option Addr) (c' : Nat) (D : Option Addr) (e : Nat) (D' : Option Addr) (e' : Nat)
    (ra : Rd w 0 w.heap.size da a A c A' c') (rb : Rd w 0 w.heap.size db b D e D' e') :
    Calls Try.prog 43 #[vl a A c A' c', vl b D e D' e'] w fun x w' => x = .returned (.bool (cmpV 12 a b == 0)) ∧ Below w.heap.size w w' := by
  have RA := Lib.hid (ra.next (below_new2 w (.cells #[.int .i64 a.k, .int .i64 a.n, .string a.s, .slice A a.l.length c, .slice A' a.m.length c'] 82) (.cells #[.int .i64 b.k, .int .i64 b.n, .string b.s, .slice D b.l.length e, .slice D' b.m.length e'] 82)))
  have RB := Lib.hid (rb.next (below_new2 w (.cells #[.int .i64 a.k, .int .i64 a.n, .string a.s, .slice A a.l.length c, .slice A' a.m.length c'] 82) (.cells #[.int .i64 b.k, .int .i64 b.n, .string b.s, .slice D b.l.length e, .slice D' b.m.length e'] 82)))
  clear ra rb
  unfold vl
  go_enter Try.func43, Try.ntmps43
  go_wp2_with fail
  refine (rcmp_any 12 _ da db a b _ _ _ _ _ _ _ _ 1 (by omega) (by omega) RA.out RB.out).mono ?_
  rintro x w1 ⟨rfl, hb1⟩
  have HB := Lib.hid (bnext (below_new2 _ _ _) hb1)
  clear hb1
  go_wp2
  go_ret
  exact ⟨by rfl, HB.out⟩

theorem refSame_regrown {w : World} {da db : Nat} {a b : V} {A : Option Addr} {c : Nat} {A' : Option Addr} {c' : Nat} {D : Option Addr} {e : Nat} {D' : Option Addr} {e' : Nat}
    (ra : Rd w 0 w.heap.size da a A c A' c') (rb : Rd w 0 w.heap.size db b D e D' e') (d : Nat) (os : Array Obj) :
    Calls Try.prog 43 #[vl a A c A' c', vl b D e D' e'] (grow (redrawn w d) os) fun x w'' => x = .returned (.bool (cmpV 12 a b == 0)) ∧ ∃ p : Regrown, w'' = grow (redrawn w p.d) p.os :=
  Calls.regrown_of (refSame_any _ da db a b _ _ _ _ _ _ _ _ (ra.next (below_regrown w d os)) (rb.next (below_regrown w d os)))
end Go.Proofs.Ytebkkjfeikpfgaa

namespace Go.Proofs.Ytebkkjfeikpfgaa
set_option maxRecDepth 100000
set_option maxRecDepth 100000
open Go.RowKit
attribute [local go_sem ↓] Go.wp_at_zero Go.wp_at_succ

theorem refCmp_at (w : World) (d : Nat) (x y : At) (hx : x.In w d) (hy : y.In w d) : Calls Try.prog 85 #[x.v, y.v] w fun e w' => e = .returned (.int .i64 (cmpV 12 x.t y.t)) ∧ Below w.heap.size w w' :=
  refCmp_any w d d x.t y.t _ _ _ _ _ _ _ _ hx hy

end Go.Proofs.Ytebkkjfeikpfgaa

namespace Go.Proofs.Ytebkkjfeikpfgaa
set_option maxRecDepth 100000
set_option maxRecDepth 100000
open Go.RowKit
attribute [local go_sem ↓] Go.wp_at_zero Go.wp_at_succ

theorem At.In.up {x : At} {w : World} {n m : Nat} (h : x.In w n) (hm : n ≤ m) : x.In w m := Rd.more h (Nat.le_refl _) (Nat.le_refl _) hm
end Go.Proofs.Ytebkkjfeikpfgaa


