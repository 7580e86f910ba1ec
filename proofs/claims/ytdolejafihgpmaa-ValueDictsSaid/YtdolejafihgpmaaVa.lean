/- Rows that are laid out of values at hand; and the law on the order of three values. -/
import Derived.Test.YtdolejafihgpmaaUc
import Derived.Test.YtdolejafihgpmaaCa
namespace Go.Proofs.Ytdolejafihgpmaa
open Go.RowKit
attribute [local go_sem ↓] Go.wp_at_zero Go.wp_at_succ

/-- A value with where its rows lie. -/
structure At where
  t : V
  A : Option Addr
  c : Nat
  A' : Option Addr
  c' : Nat
def At.cs (x : At) : List Value := [.int .i64 x.t.k, .int .i64 x.t.n, .string x.t.s, .slice x.A x.t.l.length x.c, .slice x.A' x.t.m.length x.c']
def At.In (x : At) (w : World) (d : Nat) : Prop := Rd w 0 w.heap.size d x.t x.A x.c x.A' x.c'
theorem At.In.next {x : At} {a b : World} {d : Nat} (h : x.In a d) (hb : Below a.heap.size a b) : x.In b d := Rd.next h hb
def flatA (l : List At) : List Value := l.flatMap At.cs
theorem flatA_at : ∀ (l : List At) (j : Nat) (x : At), l[j]? = some x → ∀ c, c < 5 → (flatA l)[j * 5 + c]? = x.cs[c]?
  | [], _, _, h => by simp at h
  | t :: l, 0, u, h => fun c hc => by
    simp at h
    subst h
    unfold flatA
    rw [List.flatMap_cons, List.getElem?_append_left (by simp [At.cs]; omega)]
    simp
  | t :: l, j + 1, u, h => fun c hc => by
    have ih := flatA_at l j u (by simpa using h) c hc
    unfold flatA at *
    rw [List.flatMap_cons, List.getElem?_append_right (by simp [At.cs]; omega), ← ih]
    congr 1
    simp [At.cs]; omega
theorem row_lay (w : World) (d : Nat) (l : List At) (hF : ∀ x ∈ l, x.In w d) (hl : l.length ≤ 1000) : Rw (w.alloc (.cells (flatA l).toArray 24)) 0 (w.alloc (.cells (flatA l).toArray 24)).heap.size d (some ⟨w.heap.size, 0, none⟩) l.length (l.map (·.t)) := by
  refine ⟨by simp, by unfold maxLen; omega, by simp; omega, (fun e => by cases e), fun h0 => ⟨w.heap.size, 0, rfl, Nat.zero_le _, by simp, fun j t hj => ?_⟩⟩
  rw [List.getElem?_map] at hj
  obtain ⟨x, hx, rfl⟩ := Option.map_eq_some_iff.1 hj
  refine ⟨x.A, x.c, x.A', x.c', ?_, (hF x (List.mem_of_getElem? hx)).next (below_new _ _)⟩
  have hc := flatA_at l j x hx
  have hw : ∀ o, (w.alloc (.cells (flatA l).toArray 24)).cell? ⟨w.heap.size, o, none⟩ = (flatA l)[o]? := fun o => by rw [World.cell?_alloc_at _ _ _ _ rfl]; simp
  constructor
  all_goals rw [hw]
  · rw [show 0 + j * 5 = j * 5 + 0 by omega, hc 0 (by omega)]; rfl
  · rw [show 0 + j * 5 + 1 = j * 5 + 1 by omega, hc 1 (by omega)]; rfl
  · rw [show 0 + j * 5 + 2 = j * 5 + 2 by omega, hc 2 (by omega)]; rfl
  · rw [show 0 + j * 5 + 3 = j * 5 + 3 by omega, hc 3 (by omega)]; rfl
  · rw [show 0 + j * 5 + 4 = j * 5 + 4 by omega, hc 4 (by omega)]; rfl

/-- A parameter's box. -/
def Bx (w : World) (g : Nat) (x : At) : Prop := Cell w g (.int .i64 x.t.k) (.int .i64 x.t.n) (.string x.t.s) (.slice x.A x.t.l.length x.c) (.slice x.A' x.t.m.length x.c')
theorem Bx.next {a b : World} {g : Nat} {x : At} (h : Bx a g x) (hb : Below a.heap.size a b) : Bx b g x := Cell.next hb h
theorem Bx.new (w : World) (x : At) : Bx (w.alloc (.cells #[.int .i64 x.t.k, .int .i64 x.t.n, .string x.t.s, .slice x.A x.t.l.length x.c, .slice x.A' x.t.m.length x.c'] 24)) w.heap.size x := Cell.new w _ _ _ _ _
abbrev At.v (x : At) : Value := .agg #[.int .i64 x.t.k, .int .i64 x.t.n, .string x.t.s, .slice x.A x.t.l.length x.c, .slice x.A' x.t.m.length x.c']

/-- Three values in their boxes. -/
structure B3 (w0 w : World) (d g1 g2 g3 : Nat) (x y z : At) : Prop where
  b1 : Bx w g1 x
  b2 : Bx w g2 y
  b3 : Bx w g3 z
  i1 : x.In w d
  i2 : y.In w d
  i3 : z.In w d
  bel : Below w0.heap.size w0 w
theorem B3.next {w0 a b : World} {d g1 g2 g3 : Nat} {x y z : At} (h : B3 w0 a d g1 g2 g3 x y z) (hb : Below a.heap.size a b) : B3 w0 b d g1 g2 g3 x y z :=
  ⟨h.b1.next hb, h.b2.next hb, h.b3.next hb, h.i1.next hb, h.i2.next hb, h.i3.next hb, bnext h.bel hb⟩
theorem B3.new (w : World) (d : Nat) (x y z : At) (hx : x.In w d) (hy : y.In w d) (hz : z.In w d) (W : World) (hW : ((w.alloc (.cells #[.int .i64 x.t.k, .int .i64 x.t.n, .string x.t.s, .slice x.A x.t.l.length x.c, .slice x.A' x.t.m.length x.c'] 24)).alloc (.cells #[.int .i64 y.t.k, .int .i64 y.t.n, .string y.t.s, .slice y.A y.t.l.length y.c, .slice y.A' y.t.m.length y.c'] 24)).alloc (.cells #[.int .i64 z.t.k, .int .i64 z.t.n, .string z.t.s, .slice z.A z.t.l.length z.c, .slice z.A' z.t.m.length z.c'] 24) = W) :
    B3 w W d w.heap.size (w.heap.size + 1) (w.heap.size + 1 + 1) x y z := by
  subst hW
  have h2 := Bx.new (w.alloc (.cells #[.int .i64 x.t.k, .int .i64 x.t.n, .string x.t.s, .slice x.A x.t.l.length x.c, .slice x.A' x.t.m.length x.c'] 24)) y
  have h3 := Bx.new ((w.alloc (.cells #[.int .i64 x.t.k, .int .i64 x.t.n, .string x.t.s, .slice x.A x.t.l.length x.c, .slice x.A' x.t.m.length x.c'] 24)).alloc (.cells #[.int .i64 y.t.k, .int .i64 y.t.n, .string y.t.s, .slice y.A y.t.l.length y.c, .slice y.A' y.t.m.length y.c'] 24)) z
  rw [size_alloc] at h2 h3
  rw [size_alloc] at h3
  exact ⟨((Bx.new w x).next (below_new _ _)).next (below_new _ _), h2.next (below_new _ _), h3, hx.next (below_new3 _ _ _ _), hy.next (below_new3 _ _ _ _), hz.next (below_new3 _ _ _ _), below_new3 _ _ _ _⟩
theorem lots_row (w : World) (d : Nat) (l : List At) (h : ∀ x ∈ l, x.In w d) (hl : l.length ≤ 1000) : Calls Try.prog 10 #[.slice (some ⟨w.heap.size, 0, none⟩) l.length l.length] (w.alloc (.cells (flatA l).toArray 24)) (BoolPost (w.alloc (.cells (flatA l).toArray 24))) := by
  have := lots_any (w.alloc (.cells (flatA l).toArray 24)) d _ l.length (l.map (·.t)) (row_lay w d l h hl)
  rw [List.length_map] at this
  exact this
theorem lots3 (w : World) (d : Nat) (x y z : At) (hx : x.In w d) (hy : y.In w d) (hz : z.In w d) : Calls Try.prog 10 #[.slice (some ⟨w.heap.size, 0, none⟩) 3 3] (w.alloc (.cells #[.int .i64 x.t.k, .int .i64 x.t.n, .string x.t.s, .slice x.A x.t.l.length x.c, .slice x.A' x.t.m.length x.c', .int .i64 y.t.k, .int .i64 y.t.n, .string y.t.s, .slice y.A y.t.l.length y.c, .slice y.A' y.t.m.length y.c', .int .i64 z.t.k, .int .i64 z.t.n, .string z.t.s, .slice z.A z.t.l.length z.c, .slice z.A' z.t.m.length z.c'] 24)) (fun e w' => BoolPost (w.alloc (.cells (flatA [x, y, z]).toArray 24)) e w') :=
  lots_row w d [x, y, z] (by intro q hq; simp only [List.mem_cons, List.not_mem_nil, or_false] at hq; rcases hq with rfl | rfl | rfl <;> assumption) (by simp)
theorem cmp_at (w : World) (d : Nat) (x y : At) (hx : x.In w d) (hy : y.In w d) : Calls Try.prog 12 #[x.v, y.v] w fun e w' => e = .returned (.int .i64 (cmpV 12 x.t y.t)) ∧ Below w.heap.size w w' :=
  cmp_any w d d x.t y.t _ _ _ _ _ _ _ _ hx hy

/-- How three values may stand to one another. -/
theorem three (a b c : V) : ∃ x y z : Int, cmpV 12 a b = x ∧ cmpV 12 b c = y ∧ cmpV 12 a c = z ∧ (x = -1 ∨ x = 0 ∨ x = 1) ∧ (y = -1 ∨ y = 0 ∨ y = 1) ∧ (z = -1 ∨ z = 0 ∨ z = 1) ∧ (x ≤ 0 → y ≤ 0 → z ≤ 0) ∧ (x ≤ 0 → y ≤ 0 → z = 0 → x = 0 ∧ y = 0) ∧ (x = 0 → y = 0 → z = 0) := by
  refine ⟨_, _, _, rfl, rfl, rfl, (ord_cmpV 12).tri _ _, (ord_cmpV 12).tri _ _, (ord_cmpV 12).tri _ _, (ord_cmpV 12).trans _ _ _, (ord_cmpV 12).strict _ _ _, fun h1 h2 => ?_⟩
  rw [(ord_cmpV 12).same_left a b c h1]; exact h2

set_option maxHeartbeats 8000000 in
set_option maxRecDepth 100000 in
theorem order_law (w : World) (d : Nat) (x y z : At) (hx : x.In w d) (hy : y.In w d) (hz : z.In w d) : Calls Try.prog 7 #[x.v, y.v, z.v] w fun e w' => e = .returned (.bool true) ∧ Below w.heap.size w w' := by
  have HX := Lib.hid hx
  have HY := Lib.hid hy
  have HZ := Lib.hid hz
  clear hx hy hz
  go_enter Try.func7, Try.ntmps7
  go_upto_region 1 with fail
  generalize hW : World.alloc (World.alloc (World.alloc _ _) _) _ = W
  have H0 := Lib.hid (B3.new w d x y z HX.out HY.out HZ.out W hW)
  clear hW
  generalize w.heap.size + 1 + 1 = g3 at H0
  generalize w.heap.size + 1 = g2 at H0
  generalize hg : w.heap.size = g1 at H0
  clear hg
  obtain ⟨a0, a1, a2, a3, a4, _⟩ := H0.out.b1
  obtain ⟨b0, b1, b2, b3, b4, _⟩ := H0.out.b2
  obtain ⟨c0, c1, c2, c3, c4, _⟩ := H0.out.b3
  go_wp2_with fail
  refine (lots3 W d x y z H0.out.i1 H0.out.i2 H0.out.i3).mono ?_
  rintro e w1 ⟨bb, rfl, hb1⟩
  have H1 := Lib.hid ((H0.out.next (below_new _ _)).next hb1)
  clear hb1 H0 a0 a1 a2 a3 a4 b0 b1 b2 b3 b4 c0 c1 c2 c3 c4
  cases bb
  · obtain ⟨a0, a1, a2, a3, a4, _⟩ := H1.out.b1
    obtain ⟨b0, b1, b2, b3, b4, _⟩ := H1.out.b2
    obtain ⟨c0, c1, c2, c3, c4, _⟩ := H1.out.b3
    go_wp2_with fail
    refine (cmp_at w1 d x y H1.out.i1 H1.out.i2).mono ?_
    rintro e w2 ⟨rfl, hb2⟩
    have H2 := Lib.hid (H1.out.next hb2)
    clear hb2 H1 a0 a1 a2 a3 a4 b0 b1 b2 b3 b4 c0 c1 c2 c3 c4
    obtain ⟨b0, b1, b2, b3, b4, _⟩ := H2.out.b2
    obtain ⟨c0, c1, c2, c3, c4, _⟩ := H2.out.b3
    go_wp2_with fail
    refine (cmp_at w2 d y z H2.out.i2 H2.out.i3).mono ?_
    rintro e w3 ⟨rfl, hb3⟩
    have H3 := Lib.hid (H2.out.next hb3)
    clear hb3 H2 b0 b1 b2 b3 b4 c0 c1 c2 c3 c4
    obtain ⟨a0, a1, a2, a3, a4, _⟩ := H3.out.b1
    obtain ⟨c0, c1, c2, c3, c4, _⟩ := H3.out.b3
    go_wp2_with fail
    refine (cmp_at w3 d x z H3.out.i1 H3.out.i3).mono ?_
    rintro e w4 ⟨rfl, hb4⟩
    have B4 := Lib.hid (H3.out.next hb4).bel
    clear hb4 H3 a0 a1 a2 a3 a4 c0 c1 c2 c3 c4 HX HY HZ
    obtain ⟨p, q, r, e1, e2, e3, hp, hq, hr, k1, k2, k3⟩ := three x.t y.t z.t
    rw [e1, e2, e3]
    clear e1 e2 e3
    rcases hp with rfl | rfl | rfl <;> rcases hq with rfl | rfl | rfl <;> rcases hr with rfl | rfl | rfl
    all_goals first
      | (exfalso; omega)
      | (clear k1 k2 k3; go_wp2_with fail; refine (known_any _).mono ?_; rintro e w5 ⟨rfl, hb5⟩; go_wp2; go_ret; exact ⟨rfl, bnext B4.out hb5⟩)
  · go_wp2_with fail
    refine (known_any _).mono ?_
    rintro e w2 ⟨rfl, hb2⟩
    go_wp2
    go_ret
    exact ⟨rfl, bnext H1.out.bel hb2⟩
end Go.Proofs.Ytdolejafihgpmaa
