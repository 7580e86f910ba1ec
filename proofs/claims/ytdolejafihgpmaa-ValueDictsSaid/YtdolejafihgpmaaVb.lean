/- The law on how two values stand. -/
import Derived.Test.YtdolejafihgpmaaVa
import Derived.Test.YtdolejafihgpmaaRs
namespace Go.Proofs.Ytdolejafihgpmaa
open Go.RowKit
attribute [local go_sem ↓] Go.wp_at_zero Go.wp_at_succ

/-- Two values in their boxes. -/
structure B2 (w0 w : World) (d g1 g2 : Nat) (x y : At) : Prop where
  b1 : Bx w g1 x
  b2 : Bx w g2 y
  i1 : x.In w d
  i2 : y.In w d
  bel : Below w0.heap.size w0 w
theorem B2.next {w0 a b : World} {d g1 g2 : Nat} {x y : At} (h : B2 w0 a d g1 g2 x y) (hb : Below a.heap.size a b) : B2 w0 b d g1 g2 x y :=
  ⟨h.b1.next hb, h.b2.next hb, h.i1.next hb, h.i2.next hb, bnext h.bel hb⟩
theorem B2.new (w : World) (d : Nat) (x y : At) (hx : x.In w d) (hy : y.In w d) (W : World) (hW : (w.alloc (.cells #[.int .i64 x.t.k, .int .i64 x.t.n, .string x.t.s, .slice x.A x.t.l.length x.c, .slice x.A' x.t.m.length x.c'] 24)).alloc (.cells #[.int .i64 y.t.k, .int .i64 y.t.n, .string y.t.s, .slice y.A y.t.l.length y.c, .slice y.A' y.t.m.length y.c'] 24) = W) :
    B2 w W d w.heap.size (w.heap.size + 1) x y := by
  subst hW
  have h2 := Bx.new (w.alloc (.cells #[.int .i64 x.t.k, .int .i64 x.t.n, .string x.t.s, .slice x.A x.t.l.length x.c, .slice x.A' x.t.m.length x.c'] 24)) y
  rw [size_alloc] at h2
  exact ⟨(Bx.new w x).next (below_new _ _), h2, hx.next (below_new2 _ _ _), hy.next (below_new2 _ _ _), below_new2 _ _ _⟩
theorem lots2 (w : World) (d : Nat) (x y : At) (hx : x.In w d) (hy : y.In w d) : Calls Try.prog 10 #[.slice (some ⟨w.heap.size, 0, none⟩) 2 2] (w.alloc (.cells #[.int .i64 x.t.k, .int .i64 x.t.n, .string x.t.s, .slice x.A x.t.l.length x.c, .slice x.A' x.t.m.length x.c', .int .i64 y.t.k, .int .i64 y.t.n, .string y.t.s, .slice y.A y.t.l.length y.c, .slice y.A' y.t.m.length y.c'] 24)) (fun e w' => BoolPost (w.alloc (.cells (flatA [x, y]).toArray 24)) e w') :=
  lots_row w d [x, y] (by intro q hq; simp only [List.mem_cons, List.not_mem_nil, or_false] at hq; rcases hq with rfl | rfl <;> assumption) (by simp)
theorem same_at (w : World) (d : Nat) (x y : At) (hx : x.In w d) (hy : y.In w d) : Calls Try.prog 14 #[x.v, y.v] w fun e w' => e = .returned (.bool (cmpV 12 x.t y.t == 0)) ∧ Below w.heap.size w w' :=
  same_any w d d x.t y.t _ _ _ _ _ _ _ _ hx hy
theorem refCmp_at (w : World) (d : Nat) (x y : At) (hx : x.In w d) (hy : y.In w d) : Calls Try.prog 13 #[x.v, y.v] w fun e w' => e = .returned (.int .i64 (cmpV 12 x.t y.t)) ∧ Below w.heap.size w w' :=
  refCmp_any w d d x.t y.t _ _ _ _ _ _ _ _ hx hy

set_option maxHeartbeats 8000000 in
set_option maxRecDepth 100000 in
theorem cmps_law (w : World) (d : Nat) (x y : At) (hx : x.In w d) (hy : y.In w d) : Calls Try.prog 3 #[x.v, y.v] w fun e w' => e = .returned (.bool true) ∧ Below w.heap.size w w' := by
  have HX := Lib.hid hx
  have HY := Lib.hid hy
  clear hx hy
  go_enter Try.func3, Try.ntmps3
  go_upto_region 1 with fail
  generalize hW : World.alloc (World.alloc _ _) _ = W
  have H0 := Lib.hid (B2.new w d x y HX.out HY.out W hW)
  clear hW
  generalize w.heap.size + 1 = g2 at H0
  generalize hg : w.heap.size = g1 at H0
  clear hg
  obtain ⟨a0, a1, a2, a3, a4, _⟩ := H0.out.b1
  obtain ⟨b0, b1, b2, b3, b4, _⟩ := H0.out.b2
  go_wp2_with fail
  refine (lots2 W d x y H0.out.i1 H0.out.i2).mono ?_
  rintro e w1 ⟨bb, rfl, hb1⟩
  have H1 := Lib.hid ((H0.out.next (below_new _ _)).next hb1)
  clear hb1 H0 a0 a1 a2 a3 a4 b0 b1 b2 b3 b4
  cases bb
  · obtain ⟨a0, a1, a2, a3, a4, _⟩ := H1.out.b1
    obtain ⟨b0, b1, b2, b3, b4, _⟩ := H1.out.b2
    go_wp2_with fail
    refine (cmp_at w1 d x y H1.out.i1 H1.out.i2).mono ?_
    rintro e w2 ⟨rfl, hb2⟩
    have H2 := Lib.hid (H1.out.next hb2)
    clear hb2 H1 a0 a1 a2 a3 a4 b0 b1 b2 b3 b4
    obtain ⟨a0, a1, a2, a3, a4, _⟩ := H2.out.b1
    obtain ⟨b0, b1, b2, b3, b4, _⟩ := H2.out.b2
    have AN := Lib.hid ((ord_cmpV 12).anti x.t y.t)
    have TR := (ord_cmpV 12).tri x.t y.t
    generalize hp : cmpV 12 x.t y.t = p at AN TR
    have HP := Lib.hid hp
    clear hp
    rcases TR with rfl | rfl | rfl
    all_goals
      go_wp2_with fail
      refine (refCmp_at w2 d x y H2.out.i1 H2.out.i2).mono ?_
      rintro e w3 ⟨rfl, hb3⟩
      have H3 := Lib.hid (H2.out.next hb3)
      rw [HP.out]
      clear hb3 H2 a0 a1 a2 a3 a4 b0 b1 b2 b3 b4
      obtain ⟨a0, a1, a2, a3, a4, _⟩ := H3.out.b1
      obtain ⟨b0, b1, b2, b3, b4, _⟩ := H3.out.b2
      go_wp2_with fail
      refine (cmp_at w3 d y x H3.out.i2 H3.out.i1).mono ?_
      rintro e w4 ⟨rfl, hb4⟩
      have H4 := Lib.hid (H3.out.next hb4)
      rw [AN.out]
      clear hb4 H3 a0 a1 a2 a3 a4 b0 b1 b2 b3 b4
      obtain ⟨a0, a1, a2, a3, a4, _⟩ := H4.out.b1
      obtain ⟨b0, b1, b2, b3, b4, _⟩ := H4.out.b2
      go_wp2_with fail
      refine (same_at w4 d x y H4.out.i1 H4.out.i2).mono ?_
      rintro e w5 ⟨rfl, hb5⟩
      have H5 := Lib.hid (H4.out.next hb5)
      rw [HP.out]
      clear hb5 H4 a0 a1 a2 a3 a4 b0 b1 b2 b3 b4
      obtain ⟨a0, a1, a2, a3, a4, _⟩ := H5.out.b1
      go_wp2_with fail
      refine (same_at w5 d x x H5.out.i1 H5.out.i1).mono ?_
      rintro e w6 ⟨rfl, hb6⟩
      have H6 := Lib.hid (H5.out.next hb6)
      rw [(ord_cmpV 12).refl]
      clear hb6 H5 a0 a1 a2 a3 a4
      go_wp2_with fail
      refine (known_any _).mono ?_
      rintro e w7 ⟨rfl, hb7⟩
      go_wp2
      go_ret
      exact ⟨rfl, bnext H6.out.bel hb7⟩
  · go_wp2_with fail
    refine (known_any _).mono ?_
    rintro e w2 ⟨rfl, hb2⟩
    go_wp2
    go_ret
    exact ⟨rfl, bnext H1.out.bel hb2⟩
end Go.Proofs.Ytdolejafihgpmaa
