/- Carried over from the seat of layer 2. -/
import Derived.Test.YtmgjiipooffggaaVVa
import Derived.Test.YtmgjiipooffggaaVRc
import Derived.Test.YtmgjiipooffggaaVVp
import Derived.Test.YtmgjiipooffggaaVL
import Derived.Test.YtmgjiipooffggaaVPh
import Derived.Deep.DeepCutAuto
import Derived.Deep.Cut
import Derived.IntWalk
namespace Go.Proofs.Ytmgjiipooffggaa
set_option maxRecDepth 100000
open Go.RowKit
attribute [local go_sem ↓] Go.wp_at_zero Go.wp_at_succ

/-- Two values in their boxes. -/
structure B2 (w0 w : World) (d g1 g2 : Nat) (x y : At) : Prop where
  b1 : Bx w g1 x
  b2 : Bx w g2 y
  i1 : x.In w d
  i2 : y.In w d
  bel : Below w0.heap.size w0 w
theorem B2.next {w0 a b : World} {d g1 g2 : Nat} {x y : At} (h : B2 w0 a d g1 g2 x y) (hb : Below a.heap.size a b) : B2 w0 b d g1 g2 x y :=
  ⟨h.b1.next hb, h.b2.next hb, h.i1.next hb, h.i2.next hb, bnext h.bel hb⟩
theorem B2.new (w : World) (d : Nat) (x y : At) (hx : x.In w d) (hy : y.In w d) (W : World) (hW : (w.alloc (.cells #[.int .i64 x.t.k, .int .i64 x.t.n, .string x.t.s, .slice x.A x.t.l.length x.c, .slice x.A' x.t.m.length x.c'] 24)).alloc (.cells #[.int .i64 y.t.k, .int .i64 y.t.n, .string y.t.s, .slice y.A y.t.l.length y.c, .slice y.A' y.t.m.length y.c'] 24) = W) :
    B2 w W d w.heap.size (w.heap.size + 1) x y := by
  subst hW
  have h2 := Bx.new (w.alloc (.cells #[.int .i64 x.t.k, .int .i64 x.t.n, .string x.t.s, .slice x.A x.t.l.length x.c, .slice x.A' x.t.m.length x.c'] 24)) y
  rw [size_alloc] at h2
  exact ⟨(Bx.new w x).next (below_new _ _), h2, hx.next (below_new2 _ _ _), hy.next (below_new2 _ _ _), below_new2 _ _ _⟩
theorem refCmp_at (w : World) (d : Nat) (x y : At) (hx : x.In w d) (hy : y.In w d) : Calls Try.prog 69 #[x.v, y.v] w fun e w' => e = .returned (.int .i64 (cmpV 12 x.t y.t)) ∧ Below w.heap.size w w' :=
  refCmp_any w d d x.t y.t _ _ _ _ _ _ _ _ hx hy

end Go.Proofs.Ytmgjiipooffggaa

/- Carried over from the seat of layer 2. -/
namespace Go.Proofs.Ytmgjiipooffggaa
set_option maxRecDepth 100000
open Go.RowKit
attribute [local go_sem ↓] Go.wp_at_zero Go.wp_at_succ

theorem At.In.up {x : At} {w : World} {n m : Nat} (h : x.In w n) (hm : n ≤ m) : x.In w m := Rd.more h (Nat.le_refl _) (Nat.le_refl _) hm
/-- Values in their boxes. -/
structure Bxs (w0 w : World) (d : Nat) (l : List (Nat × At)) : Prop where
  at_ : ∀ p ∈ l, Bx w p.1 p.2 ∧ p.2.In w d
  bel : Below w0.heap.size w0 w
theorem Bxs.next {w0 a b : World} {d : Nat} {l : List (Nat × At)} (h : Bxs w0 a d l) (hb : Below a.heap.size a b) : Bxs w0 b d l :=
  ⟨fun p hp => ⟨(h.at_ p hp).1.next hb, (h.at_ p hp).2.next hb⟩, bnext h.bel hb⟩
theorem Bxs.push {w0 a : World} {d : Nat} {l : List (Nat × At)} (h : Bxs w0 a d l) {x : At} (hx : x.In a d) : Bxs w0 (a.alloc (.cells #[.int .i64 x.t.k, .int .i64 x.t.n, .string x.t.s, .slice x.A x.t.l.length x.c, .slice x.A' x.t.m.length x.c'] 24)) d ((a.heap.size, x) :: l) :=
  ⟨fun p hp => by
    rcases List.mem_cons.1 hp with rfl | hp
    · exact ⟨Bx.new a x, hx.next (below_new _ _)⟩
    · exact ⟨(h.at_ p hp).1.next (below_new _ _), (h.at_ p hp).2.next (below_new _ _)⟩, bnext h.bel (below_new _ _)⟩
/-- A row that was made. -/
def RowPost (w : World) (l : List V) (e : Ending) (w' : World) : Prop := ∃ r : At, r.t = rowV l ∧ e = .returned r.v ∧ r.In w' 14 ∧ Below w.heap.size w w'
theorem row_post (w : World) (d : Nat) (A : Option Addr) (c : Nat) (l : List V) (h : Rw w 0 w.heap.size d A c l) : Calls Try.prog 22 #[.slice A l.length c] w (RowPost w l) :=
  (row_any w d l A c h).mono fun _ _ ⟨A, c, A', c', he, rd, _, _, hb⟩ => ⟨⟨rowV l, A, c, A', c'⟩, rfl, he, Rd.more rd (Nat.zero_le _) (Nat.le_refl _) (Nat.le_refl _), hb⟩
theorem row_one (w : World) (d : Nat) (x : At) (hx : x.In w d) : Calls Try.prog 22 #[.slice (some ⟨w.heap.size, 0, none⟩) 1 1] (w.alloc (.cells #[.int .i64 x.t.k, .int .i64 x.t.n, .string x.t.s, .slice x.A x.t.l.length x.c, .slice x.A' x.t.m.length x.c'] 24)) (fun e w' => RowPost w [x.t] e w') :=
  (row_post _ d _ _ _ (row_lay w d [x] (by simpa using hx) (by simp))).mono fun _ _ ⟨r, h1, h2, h3, h4⟩ => ⟨r, h1, h2, h3, bnext (below_new _ _) h4⟩
theorem row_two (w : World) (d : Nat) (x y : At) (hx : x.In w d) (hy : y.In w d) : Calls Try.prog 22 #[.slice (some ⟨w.heap.size, 0, none⟩) 2 2] (w.alloc (.cells #[.int .i64 x.t.k, .int .i64 x.t.n, .string x.t.s, .slice x.A x.t.l.length x.c, .slice x.A' x.t.m.length x.c', .int .i64 y.t.k, .int .i64 y.t.n, .string y.t.s, .slice y.A y.t.l.length y.c, .slice y.A' y.t.m.length y.c'] 24)) (fun e w' => RowPost w [x.t, y.t] e w') :=
  (row_post _ d _ _ _ (row_lay w d [x, y] (by intro q hq; simp only [List.mem_cons, List.not_mem_nil, or_false] at hq; rcases hq with rfl | rfl <;> assumption) (by simp))).mono fun _ _ ⟨r, h1, h2, h3, h4⟩ => ⟨r, h1, h2, h3, bnext (below_new _ _) h4⟩
theorem depth_at (w : World) (d : Nat) (x : At) (hx : x.In w d) : Calls Try.prog 23 #[x.v] w fun e w' => e = .returned (.int .i64 (depV 12 x.t)) ∧ Below w.heap.size w w' := depth_any w d x.t _ _ _ _ hx
theorem check_at (w : World) (d : Nat) (x : At) (hx : x.In w d) : Calls Try.prog 40 #[x.v] w fun e w' => e = .returned (.int .i64 (errI (okV 12 x.t))) ∧ Below w.heap.size w w' := check_any w d x.t _ _ _ _ hx
/-- A value, with that tree. -/
def IsAt (d : Nat) (t : V) : Value → World → Prop := fun x w => ∃ q : At, x = q.v ∧ q.t = t ∧ q.In w d
theorem IsAt.stays (d : Nat) (t : V) : Stays (IsAt d t) := fun _ _ _ ⟨q, e, h, hi⟩ hb => ⟨q, e, h, hi.next hb⟩
end Go.Proofs.Ytmgjiipooffggaa

