/- Tests of one and of two values, plain; PredRanges: the walk. -/
import Derived.Test.YtiiccefnfepccaaPR
namespace Go.Proofs.Ytiiccefnfepccaa
set_option maxRecDepth 100000
open Go.RowKit Go.Sort

theorem ok_one' {k : Int} {a : V} (h : 1 ≤ k ∧ k ≤ 6) (ha : okV 12 a = true) (r : Nat) : okP (r + 1) (.mk k [a] []) = true := by
  show (fitsN k 1 0 && (okV 12 a && true) && true) = true
  rw [ha]
  unfold fitsN
  rw [if_pos h]; rfl
theorem ok_two' {k : Int} {a b : V} (h : 7 ≤ k ∧ k ≤ 9) (ha : okV 12 a = true) (hb : okV 12 b = true) : okP 12 (.mk k [a, b] []) = true := by
  show (fitsN k 2 0 && (okV 12 a && (okV 12 b && true)) && true) = true
  rw [ha, hb]
  unfold fitsN
  rw [if_neg (by omega), if_pos h]; rfl
theorem bne_not (a b : Int) : (a != b) = !(a == b) := rfl
theorem t_rel {k : Int} {a : V} (v : V) (h : 3 ≤ k ∧ k ≤ 6) (ha : okV 12 a = true) : testV (.mk k [a] []) v = ((a.k == v.k) && relI k (cmpV 12 v a) (cmpV 12 v a)) := by
  unfold testV
  rw [ok_one' (by omega) ha 11, holdV, if_neg (by show ¬(k = 1 ∨ k = 10); omega), if_neg (by show ¬(k = 2 ∨ k = 11); omega), if_neg (by show ¬k = 12; omega), if_neg (by show ¬k = 13; omega), if_neg (by show ¬k = 14; omega)]
  unfold standV
  show (true && (!((a.k != v.k) || false) && relI k (cmpV 12 v a) (cmpV 12 v a))) = _
  rw [bne_not, Bool.or_false, Bool.not_not, Bool.true_and]
theorem t_two {k : Int} {a b : V} (v : V) (h : 7 ≤ k ∧ k ≤ 9) (ha : okV 12 a = true) (hb : okV 12 b = true) : testV (.mk k [a, b] []) v = ((a.k == v.k) && (b.k == v.k) && relI k (cmpV 12 v a) (cmpV 12 v b)) := by
  unfold testV
  rw [ok_two' h ha hb, holdV, if_neg (by show ¬(k = 1 ∨ k = 10); omega), if_neg (by show ¬(k = 2 ∨ k = 11); omega), if_neg (by show ¬k = 12; omega), if_neg (by show ¬k = 13; omega), if_neg (by show ¬k = 14; omega)]
  unfold standV
  show (true && (!((a.k != v.k) || ((b.k != v.k) || false)) && relI k (cmpV 12 v a) (cmpV 12 v b))) = _
  rw [bne_not, bne_not, Bool.or_false, Bool.not_or, Bool.not_not, Bool.not_not, Bool.true_and]
theorem ok_pair {k k1 k2 : Int} {a b : V} (hk : k = 13 ∨ k = 14) (h1 : 3 ≤ k1 ∧ k1 ≤ 6) (h2 : 3 ≤ k2 ∧ k2 ≤ 6) (ha : okV 12 a = true) (hb : okV 12 b = true) : okP 12 (.mk k [] [.mk k1 [a] [], .mk k2 [b] []]) = true := by
  show (fitsN k 0 2 && true && (okP 11 (.mk k1 [a] []) && (okP 11 (.mk k2 [b] []) && true))) = true
  rw [ok_one' (by omega) ha 10, ok_one' (by omega) hb 10]
  unfold fitsN
  rw [if_neg (by omega), if_neg (by omega), if_neg (by omega), if_neg (by omega), if_pos (by omega)]; rfl
theorem hold_11 {k : Int} {a : V} (v : V) (h : 3 ≤ k ∧ k ≤ 6) (ha : okV 12 a = true) : holdV 11 v (.mk k [a] []) = testV (.mk k [a] []) v := by
  unfold testV
  rw [ok_one' (by omega) ha 11, holdV_up 11 12 v _ (ok_one' (by omega) ha 10) (by omega)]; rfl
theorem t_and {k1 k2 : Int} {a b : V} (v : V) (h1 : 3 ≤ k1 ∧ k1 ≤ 6) (h2 : 3 ≤ k2 ∧ k2 ≤ 6) (ha : okV 12 a = true) (hb : okV 12 b = true) :
    testV (joinP 13 [.mk k1 [a] [], .mk k2 [b] []]) v = (testV (.mk k1 [a] []) v && testV (.mk k2 [b] []) v) := by
  have o := ok_pair (k := 13) (.inl rfl) h1 h2 ha hb
  unfold joinP
  rw [if_pos o, ← hold_11 v h1 ha, ← hold_11 v h2 hb]
  unfold testV
  rw [o, holdV]
  show (true && !(!holdV 11 v (.mk k1 [a] []) || (!holdV 11 v (.mk k2 [b] []) || false))) = _
  cases holdV 11 v (.mk k1 [a] []) <;> cases holdV 11 v (.mk k2 [b] []) <;> rfl
theorem t_or {k1 k2 : Int} {a b : V} (v : V) (h1 : 3 ≤ k1 ∧ k1 ≤ 6) (h2 : 3 ≤ k2 ∧ k2 ≤ 6) (ha : okV 12 a = true) (hb : okV 12 b = true) :
    testV (joinP 14 [.mk k1 [a] [], .mk k2 [b] []]) v = (testV (.mk k1 [a] []) v || testV (.mk k2 [b] []) v) := by
  have o := ok_pair (k := 14) (.inr rfl) h1 h2 ha hb
  unfold joinP
  rw [if_pos o, ← hold_11 v h1 ha, ← hold_11 v h2 hb]
  unfold testV
  rw [o, holdV]
  show (true && (holdV 11 v (.mk k1 [a] []) || (holdV 11 v (.mk k2 [b] []) || false))) = _
  cases holdV 11 v (.mk k1 [a] []) <;> cases holdV 11 v (.mk k2 [b] []) <;> rfl
theorem rng_7 {a b : V} (v : V) (e : a.k = b.k) (ha : okV 12 a = true) (hb : okV 12 b = true) : testV (joinP 13 [.mk 6 [a] [], .mk 3 [b] []]) v = testV (.mk 7 [a, b] []) v := by
  rw [t_and v (by omega) (by omega) ha hb, t_rel v (by omega) ha, t_rel v (by omega) hb, t_two v (by omega) ha hb, e]
  show ((b.k == v.k && decide (0 ≤ cmpV 12 v a)) && (b.k == v.k && decide (cmpV 12 v b < 0))) = (b.k == v.k && b.k == v.k && (decide (0 ≤ cmpV 12 v a) && decide (cmpV 12 v b < 0)))
  cases (b.k == v.k) <;> simp
theorem rng_8 {a b : V} (v : V) (e : a.k = b.k) (ha : okV 12 a = true) (hb : okV 12 b = true) : testV (joinP 13 [.mk 5 [a] [], .mk 3 [b] []]) v = testV (.mk 8 [a, b] []) v := by
  rw [t_and v (by omega) (by omega) ha hb, t_rel v (by omega) ha, t_rel v (by omega) hb, t_two v (by omega) ha hb, e]
  show ((b.k == v.k && decide (0 < cmpV 12 v a)) && (b.k == v.k && decide (cmpV 12 v b < 0))) = (b.k == v.k && b.k == v.k && (decide (0 < cmpV 12 v a) && decide (cmpV 12 v b < 0)))
  cases (b.k == v.k) <;> simp
theorem rng_9 {a b : V} (v : V) (e : a.k = b.k) (ha : okV 12 a = true) (hb : okV 12 b = true) : testV (joinP 14 [.mk 3 [a] [], .mk 5 [b] []]) v = testV (.mk 9 [a, b] []) v := by
  rw [t_or v (by omega) (by omega) ha hb, t_rel v (by omega) ha, t_rel v (by omega) hb, t_two v (by omega) ha hb, e]
  show ((b.k == v.k && decide (cmpV 12 v a < 0)) || (b.k == v.k && decide (0 < cmpV 12 v b))) = (b.k == v.k && b.k == v.k && (decide (cmpV 12 v a < 0) || decide (0 < cmpV 12 v b)))
  cases (b.k == v.k) <;> simp
theorem t_mixed {k : Int} {a b : V} (v : V) (h : 7 ≤ k ∧ k ≤ 9) (ha : okV 12 a = true) (hb : okV 12 b = true) (e : ¬ a.k = b.k) : testV (.mk k [a, b] []) v = false := by
  rw [t_two v h ha hb]
  by_cases q : a.k = v.k
  · rw [show (b.k == v.k) = false from beq_eq_false_iff_ne.2 (fun z => e (q.trans z.symm))]; simp
  · rw [show (a.k == v.k) = false from beq_eq_false_iff_ne.2 q]; simp
theorem row_three (w : World) (d : Nat) (x y z : At) (hx : x.In w d) (hy : y.In w d) (hz : z.In w d) : Rw (w.alloc (.cells #[.int .i64 x.t.k, .int .i64 x.t.n, .string x.t.s, .slice x.A x.t.l.length x.c, .slice x.A' x.t.m.length x.c', .int .i64 y.t.k, .int .i64 y.t.n, .string y.t.s, .slice y.A y.t.l.length y.c, .slice y.A' y.t.m.length y.c', .int .i64 z.t.k, .int .i64 z.t.n, .string z.t.s, .slice z.A z.t.l.length z.c, .slice z.A' z.t.m.length z.c'] 27)) 0 (w.alloc (.cells #[.int .i64 x.t.k, .int .i64 x.t.n, .string x.t.s, .slice x.A x.t.l.length x.c, .slice x.A' x.t.m.length x.c', .int .i64 y.t.k, .int .i64 y.t.n, .string y.t.s, .slice y.A y.t.l.length y.c, .slice y.A' y.t.m.length y.c', .int .i64 z.t.k, .int .i64 z.t.n, .string z.t.s, .slice z.A z.t.l.length z.c, .slice z.A' z.t.m.length z.c'] 27)).heap.size d (some ⟨w.heap.size, 0, none⟩) 3 [x.t, y.t, z.t] :=
  row_lay w d [x, y, z] (by intro q hq; rcases (by simpa using hq : q = x ∨ q = y ∨ q = z) with rfl | rfl | rfl; exact hx; exact hy; exact hz) (by simp)
theorem row_two' (w : World) (d : Nat) (x y : At) (hx : x.In w d) (hy : y.In w d) : Rw (w.alloc (.cells #[.int .i64 x.t.k, .int .i64 x.t.n, .string x.t.s, .slice x.A x.t.l.length x.c, .slice x.A' x.t.m.length x.c', .int .i64 y.t.k, .int .i64 y.t.n, .string y.t.s, .slice y.A y.t.l.length y.c, .slice y.A' y.t.m.length y.c'] 27)) 0 (w.alloc (.cells #[.int .i64 x.t.k, .int .i64 x.t.n, .string x.t.s, .slice x.A x.t.l.length x.c, .slice x.A' x.t.m.length x.c', .int .i64 y.t.k, .int .i64 y.t.n, .string y.t.s, .slice y.A y.t.l.length y.c, .slice y.A' y.t.m.length y.c'] 27)).heap.size d (some ⟨w.heap.size, 0, none⟩) 2 [x.t, y.t] :=
  row_lay w d [x, y] (by intro q hq; rcases (by simpa using hq : q = x ∨ q = y) with rfl | rfl; exact hx; exact hy) (by simp)
theorem isPw_two (w : World) (q r : Pt) (d : Nat) (t u : P) (hq : q.t = t) (hr : r.t = u) (iq : q.In w d) (ir : r.In w d) : IsPw d 2 [t, u] (.slice (some ⟨w.heap.size, 0, none⟩) 2 2) (w.alloc (.cells #[.int .i64 q.t.k, .slice q.A q.t.v.length q.c, .slice q.A' q.t.p.length q.c', .int .i64 r.t.k, .slice r.A r.t.v.length r.c, .slice r.A' r.t.p.length r.c'] 25)) := by
  subst hq
  subst hr
  exact ⟨_, _, rfl, rfl, rowP_lay w d [q, r] (by intro x hx; rcases (by simpa using hx : x = q ∨ x = r) with rfl | rfl; exact iq; exact ir) (by simp)⟩
theorem k_join (w : World) (d : Nat) (k : Int) (hk : -9223372036854775808 ≤ k ∧ k ≤ 9223372036854775807) (A : Option Addr) (c : Nat) (t u : P) (h : Pw w 0 w.heap.size d A c [t, u]) : Calls Try.prog 25 #[.int .i64 k, .slice A 2 c] w (OnePost w 13 (joinP k [t, u])) :=
  (join_any w d k hk A c [t, u] h).mono fun _ _ h => h.one
theorem two_in {w : World} {d g : Nat} {k : Int} (hk : -9223372036854775808 ≤ k ∧ k ≤ 9223372036854775807) {x y : V} (h : Rw w 0 w.heap.size d (some ⟨g, 0, none⟩) 2 [x, y]) : Pt.In ⟨.mk k [x, y] [], some ⟨g, 0, none⟩, 2, none, 0⟩ w 1 :=
  ⟨knd_lit k hk _ _, ⟨d, h⟩, pw_nil _ _ _ _⟩
def g9D : Nat → Tmp := fun j => [64, 65, 66, 67, 68, 69, 70, 71, 11].getD j 0
def g9E : Nat → List Nat := fun j => [[], [0], [], [2], [1, 3], [4], [], [5, 6], [7]].getD j []
def g10D : Nat → Tmp := fun j => [72, 73, 74, 75, 76, 77, 78, 79, 12].getD j 0
def g10E : Nat → List Nat := fun j => [[], [0], [], [2], [1, 3], [4], [], [5, 6], [7]].getD j []
def g11D : Nat → Tmp := fun j => [80, 81, 82, 83, 84, 85, 86, 87, 13].getD j 0
def g11E : Nat → List Nat := fun j => [[], [0], [], [2], [1, 3], [4], [], [5, 6], [7]].getD j []

set_option maxHeartbeats 12800000 in
theorem ranges_law (w : World) (d : Nat) (a b y : At) (ha : a.In w d) (hb : b.In w d) (hy : y.In w d) : Calls Try.prog 9 #[a.v, b.v, y.v] w fun e w' => e = .returned (.bool true) ∧ Below w.heap.size w w' := by
  have Ia := Lib.hid (ha.up (show d ≤ d + 20 by omega))
  have Ib := Lib.hid (hb.up (show d ≤ d + 20 by omega))
  have Iy := Lib.hid (hy.up (show d ≤ d + 20 by omega))
  clear ha hb hy
  unfold At.v
  go_enter Try.func9, Try.ntmps9
  go_upto_region 1 with fail
  have k0 := PS.addV (PS.start w (d + 20)) a Ia.out
  have k1 := PS.addV k0 b (Ib.out.next (below_new _ _))
  have k2 := PS.addV k1 y (Iy.out.next (below_new2 _ _ _))
  simp only [size_alloc] at k2
  generalize hW : World.alloc (World.alloc (World.alloc _ _) _) _ = W at k2 ⊢
  clear hW k0 k1 Ia Ib Iy
  have K := Lib.hid k2
  clear k2
  obtain ⟨⟨ay0, ay1, ay2, ay3, ay4, _⟩, ia⟩ := K.out.v (w.heap.size, a) (by simp)
  obtain ⟨⟨by0, by1, by2, by3, by4, _⟩, ib⟩ := K.out.v (w.heap.size + 1, b) (by simp)
  obtain ⟨⟨yy0, yy1, yy2, yy3, yy4, _⟩, iy⟩ := K.out.v (w.heap.size + 1 + 1, y) (by simp)
  have hb := below_new W (.cells #[.int .i64 a.t.k, .int .i64 a.t.n, .string a.t.s, .slice a.A a.t.l.length a.c, .slice a.A' a.t.m.length a.c', .int .i64 b.t.k, .int .i64 b.t.n, .string b.t.s, .slice b.A b.t.l.length b.c, .slice b.A' b.t.m.length b.c', .int .i64 y.t.k, .int .i64 y.t.n, .string y.t.s, .slice y.A y.t.l.length y.c, .slice y.A' y.t.m.length y.c'] 27)
  have RO := Lib.hid (row_three W (d + 20) a b y ia ib iy)
  have K1 := Lib.hid (K.out.next hb)
  clear hb ia ib iy
  go_wp2_with fail
  refine (much_any _ (d + 20) (d + 20) ⟨zeroP, none, 0, none, 0⟩ ((zeroP_in _).up (by omega)) _ 3 [a.t, b.t, y.t] RO.out).mono ?_
  rintro e w1 ⟨m, rfl, hb⟩
  have KA := Lib.hid (K1.out.next hb)
  clear ay0 ay1 ay2 ay3 ay4 by0 by1 by2 by3 by4 yy0 yy1 yy2 yy3 yy4 hb K1 RO K
  cases m
  case true =>
    go_wp2_with fail
    refine (known_any w1).mono ?_
    rintro e wk ⟨rfl, hbk⟩
    have BK := Lib.hid (bnext KA.out.bel hbk)
    clear hbk
    go_wp2
    go_ret
    exact ⟨rfl, BK.out⟩
  obtain ⟨⟨ay0, ay1, ay2, ay3, ay4, _⟩, ia⟩ := KA.out.v (w.heap.size, a) (by simp)
  go_wp2_with fail
  refine (refCheck_at w1 (d + 20) a ia).mono ?_
  rintro e w2 ⟨rfl, hb⟩
  have KB0 := Lib.hid (KA.out.next hb)
  clear ay0 ay1 ay2 ay3 ay4 ia hb KA
  cases hk : okV 12 a.t
  case false =>
    go_wp2_with fail
    refine (known_any w2).mono ?_
    rintro e wk ⟨rfl, hbk⟩
    have BK := Lib.hid (bnext KB0.out.bel hbk)
    clear hbk
    go_wp2
    go_ret
    exact ⟨rfl, BK.out⟩
  have Oa := Lib.hid hk
  clear hk
  obtain ⟨⟨by0, by1, by2, by3, by4, _⟩, ib⟩ := KB0.out.v (w.heap.size + 1, b) (by simp)
  go_wp2_with fail
  refine (refCheck_at w2 (d + 20) b ib).mono ?_
  rintro e w3 ⟨rfl, hb⟩
  have KB1 := Lib.hid (KB0.out.next hb)
  clear by0 by1 by2 by3 by4 ib hb KB0
  cases hk : okV 12 b.t
  case false =>
    go_wp2_with fail
    refine (known_any w3).mono ?_
    rintro e wk ⟨rfl, hbk⟩
    have BK := Lib.hid (bnext KB1.out.bel hbk)
    clear hbk
    go_wp2
    go_ret
    exact ⟨rfl, BK.out⟩
  have Ob := Lib.hid hk
  clear hk
  obtain ⟨⟨ay0, ay1, ay2, ay3, ay4, _⟩, ia⟩ := KB1.out.v (w.heap.size, a) (by simp)
  obtain ⟨⟨by0, by1, by2, by3, by4, _⟩, ib⟩ := KB1.out.v (w.heap.size + 1, b) (by simp)
  have hb := below_new w3 (.cells #[.int .i64 a.t.k, .int .i64 a.t.n, .string a.t.s, .slice a.A a.t.l.length a.c, .slice a.A' a.t.m.length a.c', .int .i64 b.t.k, .int .i64 b.t.n, .string b.t.s, .slice b.A b.t.l.length b.c, .slice b.A' b.t.m.length b.c'] 27)
  have RO := Lib.hid (row_two' w3 (d + 20) a b ia ib)
  have K2 := Lib.hid (KB1.out.next hb)
  clear hb ia ib
  go_upto_region 4 with fail
  generalize hV : World.alloc w3 _ = w4 at RO K2 ⊢
  clear hV ay0 ay1 ay2 ay3 ay4 by0 by1 by2 by3 by4 KB1
  generalize w3.heap.size = gt at *
  obtain ⟨⟨yy0, yy1, yy2, yy3, yy4, _⟩, iy⟩ := K2.out.v (w.heap.size + 1 + 1, y) (by simp)
  go_wp2_with fail
  refine (test_any w4 1 (d + 20) ⟨.mk 7 [a.t, b.t] [], some ⟨gt, 0, none⟩, 2, none, 0⟩ y (two_in (by omega) RO.out) iy).mono ?_
  rintro e x0 ⟨rfl, hb⟩
  replace RO := Lib.hid (RO.out.next hb)
  have L0 := Lib.hid (K2.out.next hb)
  clear yy0 yy1 yy2 yy3 yy4 iy hb K2
  obtain ⟨⟨yy0, yy1, yy2, yy3, yy4, _⟩, iy⟩ := L0.out.v (w.heap.size + 1 + 1, y) (by simp)
  go_wp2_with fail
  refine (test_any x0 1 (d + 20) ⟨.mk 8 [a.t, b.t] [], some ⟨gt, 0, none⟩, 2, none, 0⟩ y (two_in (by omega) RO.out) iy).mono ?_
  rintro e x1 ⟨rfl, hb⟩
  replace RO := Lib.hid (RO.out.next hb)
  have L1 := Lib.hid (L0.out.next hb)
  clear yy0 yy1 yy2 yy3 yy4 iy hb L0
  obtain ⟨⟨yy0, yy1, yy2, yy3, yy4, _⟩, iy⟩ := L1.out.v (w.heap.size + 1 + 1, y) (by simp)
  go_wp2_with fail
  refine (test_any x1 1 (d + 20) ⟨.mk 9 [a.t, b.t] [], some ⟨gt, 0, none⟩, 2, none, 0⟩ y (two_in (by omega) RO.out) iy).mono ?_
  rintro e x2 ⟨rfl, hb⟩
  replace RO := Lib.hid (RO.out.next hb)
  have L2 := Lib.hid (L1.out.next hb)
  clear yy0 yy1 yy2 yy3 yy4 iy hb L1
  obtain ⟨⟨ay0, ay1, ay2, ay3, ay4, _⟩, _⟩ := L2.out.v (w.heap.size, a) (by simp)
  obtain ⟨⟨by0, by1, by2, by3, by4, _⟩, _⟩ := L2.out.v (w.heap.size + 1, b) (by simp)
  obtain ⟨T7, hT7⟩ : ∃ T, T = testV (.mk 7 [a.t, b.t] []) y.t := ⟨_, rfl⟩
  obtain ⟨T8, hT8⟩ : ∃ T, T = testV (.mk 8 [a.t, b.t] []) y.t := ⟨_, rfl⟩
  obtain ⟨T9, hT9⟩ : ∃ T, T = testV (.mk 9 [a.t, b.t] []) y.t := ⟨_, rfl⟩
  rw [← hT7, ← hT8, ← hT9]
  by_cases hk : a.t.k = b.t.k
  case neg =>
    have n1 : (a.t.k != b.t.k) = true := by rw [bne_not, beq_eq_false_iff_ne.2 hk]; rfl
    have e7 : T7 = false := by rw [hT7]; exact t_mixed y.t (by omega) Oa.out Ob.out hk
    have e8 : T8 = false := by rw [hT8]; exact t_mixed y.t (by omega) Oa.out Ob.out hk
    have e9 : T9 = false := by rw [hT9]; exact t_mixed y.t (by omega) Oa.out Ob.out hk
    clear hT7 hT8 hT9 hk RO
    subst e7
    subst e8
    subst e9
    go_wp2_with fail
    refine (known_any x2).mono ?_
    rintro e wk ⟨rfl, hbk⟩
    have BK := Lib.hid (bnext L2.out.bel hbk)
    clear hbk
    go_wp2
    go_ret
    exact ⟨rfl, BK.out⟩
  have n1 : (a.t.k != b.t.k) = false := by rw [bne_not, hk]; simp
  have J7 := Lib.hid (show testV (joinP 13 [.mk 6 [a.t] [], .mk 3 [b.t] []]) y.t = T7 by rw [hT7]; exact rng_7 y.t hk Oa.out Ob.out)
  have J8 := Lib.hid (show testV (joinP 13 [.mk 5 [a.t] [], .mk 3 [b.t] []]) y.t = T8 by rw [hT8]; exact rng_8 y.t hk Oa.out Ob.out)
  have J9 := Lib.hid (show testV (joinP 14 [.mk 3 [a.t] [], .mk 5 [b.t] []]) y.t = T9 by rw [hT9]; exact rng_9 y.t hk Oa.out Ob.out)
  clear hT7 hT8 hT9 hk RO
  go_upto_region 9 with fail
  clear ay0 ay1 ay2 ay3 ay4 by0 by1 by2 by3 by4
  refine region_phase_all [0, 1, 2, 3, 4, 5, 6, 7, 8] g9D g9E (fun w' => PS w (d + 20) [] [(w.heap.size + 1 + 1, y), (w.heap.size + 1, b), (w.heap.size, a)] w') (saidOf [Is (a.v), IsPt 1 (.mk 6 [a.t] []), Is (b.v), IsPt 1 (.mk 3 [b.t] []), IsPw 1 2 [.mk 6 [a.t] [], .mk 3 [b.t] []], IsPt 13 (joinP 13 [.mk 6 [a.t] [], .mk 3 [b.t] []]), Is (y.v), Is (.bool (T7)), Is (.bool (T7))]) 104 (by rfl) (by kernel_rfl) (by kernel_rfl) (by kernel_rfl) (fun _ _ h hb => h.next hb) (stays_said _ (stays_cons (Is.stays _) (stays_cons (IsPt.stays _ _) (stays_cons (Is.stays _) (stays_cons (IsPt.stays _ _) (stays_cons (IsPw.stays _ _ _) (stays_cons (IsPt.stays _ _) (stays_cons (Is.stays _) (stays_cons (Is.stays _) (stays_cons (Is.stays _) stays_nil)))))))))) (L2.out.next (below_drewN _ _ 1)) (by kernel_rfl) ?_ ?_
  · skip
    refine owes_cons (Owes.mk (o := ({ dst := some 64, op := .load 27 (.tmp 3), type := 27, pos := "more.go:21", after := #[], guard := none } : Oper)) rfl (fun v wk hj hD K hK => ?_)) ?_
    · simp only [g9D, g9E, putAll, Act.put, List.getD_cons_zero, List.setIfInBounds_toArray, List.set_cons_zero, List.set_cons_succ] at hK ⊢
      obtain ⟨⟨a0, a1, a2, a3, a4, _⟩, _⟩ := hj.v (w.heap.size, a) (by simp)
      go_simp
      exact hK.out _ _ (Below.refl _ _) rfl
    refine owes_cons (Owes.mk (o := ({ dst := some 65, op := .call { callee := .value (.func 21), args := #[.const (.int .i64 6), .tmp 64], argTypes := #[3, 27] }, type := 25, pos := "more.go:21", after := #[{ on := 0, ground := .data }], guard := none } : Oper)) rfl (fun v wk hj hD K hK => ?_)) ?_
    · have h0 : v 0 = (a.v) := hD 0 (by decide)
      simp only [g9D, g9E, putAll, Act.put, List.getD_cons_succ, List.getD_cons_zero, List.setIfInBounds_toArray, List.set_cons_zero, List.set_cons_succ, h0] at hK ⊢
      go_simp
      refine (one_any wk (d + 20) 6 (by omega) a (hj.v (w.heap.size, a) (by simp)).2).mono ?_
      rintro e w2 ⟨z, rfl, tz, iz, hb⟩
      exact hK.out _ _ hb ⟨z, rfl, tz, iz⟩
    refine owes_cons (Owes.mk (o := ({ dst := some 66, op := .load 27 (.tmp 4), type := 27, pos := "more.go:21", after := #[], guard := none } : Oper)) rfl (fun v wk hj hD K hK => ?_)) ?_
    · simp only [g9D, g9E, putAll, Act.put, List.getD_cons_succ, List.getD_cons_zero, List.setIfInBounds_toArray, List.set_cons_zero, List.set_cons_succ] at hK ⊢
      obtain ⟨⟨a0, a1, a2, a3, a4, _⟩, _⟩ := hj.v (w.heap.size + 1, b) (by simp)
      go_simp
      exact hK.out _ _ (Below.refl _ _) rfl
    refine owes_cons (Owes.mk (o := ({ dst := some 67, op := .call { callee := .value (.func 21), args := #[.const (.int .i64 3), .tmp 66], argTypes := #[3, 27] }, type := 25, pos := "more.go:21", after := #[{ on := 2, ground := .data }, { on := 1, ground := .chain }], guard := none } : Oper)) rfl (fun v wk hj hD K hK => ?_)) ?_
    · have h2 : v 2 = (b.v) := hD 2 (by decide)
      simp only [g9D, g9E, putAll, Act.put, List.getD_cons_succ, List.getD_cons_zero, List.setIfInBounds_toArray, List.set_cons_zero, List.set_cons_succ, h2] at hK ⊢
      go_simp
      refine (one_any wk (d + 20) 3 (by omega) b (hj.v (w.heap.size + 1, b) (by simp)).2).mono ?_
      rintro e w2 ⟨z, rfl, tz, iz, hb⟩
      exact hK.out _ _ hb ⟨z, rfl, tz, iz⟩
    refine owes_cons (Owes.mk (o := ({ dst := some 68, op := .buildSlice 23 2 #[(0, .tmp 65), (1, .tmp 67)], type := 23, pos := "more.go:21", after := #[{ on := 1, ground := .data }, { on := 3, ground := .data }], guard := none } : Oper)) rfl (fun v wk hj hD K hK => ?_)) ?_
    · obtain ⟨q1, h1, t1, r1⟩ : IsPt 1 (.mk 6 [a.t] []) (v 1) wk := hD 1 (by decide)
      obtain ⟨q3, h3, t3, r3⟩ : IsPt 1 (.mk 3 [b.t] []) (v 3) wk := hD 3 (by decide)
      simp only [g9D, g9E, putAll, Act.put, List.getD_cons_succ, List.getD_cons_zero, List.setIfInBounds_toArray, List.set_cons_zero, List.set_cons_succ, h1, h3] at hK ⊢
      replace t1 := Lib.hid t1
      replace t3 := Lib.hid t3
      go_simp
      exact hK.out _ _ (below_new _ _) (isPw_two wk q1 q3 1 _ _ t1.out t3.out r1 r3)
    refine owes_cons (Owes.mk (o := ({ dst := some 69, op := .call { callee := .value (.func 25), args := #[.const (.int .i64 13), .tmp 68], argTypes := #[3, 23] }, type := 25, pos := "more.go:21", after := #[{ on := 4, ground := .data }, { on := 3, ground := .chain }], guard := none } : Oper)) rfl (fun v wk hj hD K hK => ?_)) ?_
    · obtain ⟨A4, c4, h4, l4, r4⟩ : IsPw 1 2 [.mk 6 [a.t] [], .mk 3 [b.t] []] (v 4) wk := hD 4 (by decide)
      simp only [g9D, g9E, putAll, Act.put, List.getD_cons_succ, List.getD_cons_zero, List.setIfInBounds_toArray, List.set_cons_zero, List.set_cons_succ, h4] at hK ⊢
      go_simp
      refine (k_join wk 1 13 (by omega) A4 c4 (.mk 6 [a.t] []) (.mk 3 [b.t] []) r4).mono ?_
      rintro e w2 ⟨z, rfl, tz, iz, hb⟩
      exact hK.out _ _ hb ⟨z, rfl, tz, iz⟩
    refine owes_cons (Owes.mk (o := ({ dst := some 70, op := .load 27 (.tmp 5), type := 27, pos := "more.go:21", after := #[], guard := none } : Oper)) rfl (fun v wk hj hD K hK => ?_)) ?_
    · simp only [g9D, g9E, putAll, Act.put, List.getD_cons_succ, List.getD_cons_zero, List.setIfInBounds_toArray, List.set_cons_zero, List.set_cons_succ] at hK ⊢
      obtain ⟨⟨a0, a1, a2, a3, a4, _⟩, _⟩ := hj.v (w.heap.size + 1 + 1, y) (by simp)
      go_simp
      exact hK.out _ _ (Below.refl _ _) rfl
    refine owes_cons (Owes.mk (o := ({ dst := some 71, op := .call { callee := .value (.func 14), args := #[.tmp 69, .tmp 70], argTypes := #[25, 27] }, type := 4, pos := "more.go:21", after := #[{ on := 5, ground := .data }, { on := 6, ground := .data }, { on := 5, ground := .chain }], guard := none } : Oper)) rfl (fun v wk hj hD K hK => ?_)) ?_
    · obtain ⟨q5, h5, t5, r5⟩ : IsPt 13 (joinP 13 [.mk 6 [a.t] [], .mk 3 [b.t] []]) (v 5) wk := hD 5 (by decide)
      have h6 : v 6 = (y.v) := hD 6 (by decide)
      simp only [g9D, g9E, putAll, Act.put, List.getD_cons_succ, List.getD_cons_zero, List.setIfInBounds_toArray, List.set_cons_zero, List.set_cons_succ, h5, h6] at hK ⊢
      go_simp
      refine (k_test wk 13 (d + 20) q5 y r5 (hj.v (w.heap.size + 1 + 1, y) (by simp)).2 T7 (by rw [t5]; exact J7.out)).mono ?_
      rintro e w2 ⟨rfl, hb⟩
      exact hK.out _ _ hb rfl
    refine owes_cons (Owes.mk (o := ({ dst := some 11, op := .assign (.tmp 71), type := 4, pos := "more.go:21", after := #[{ on := 7, ground := .data }, { on := 7, ground := .chain }, { on := 0, ground := .phase }, { on := 1, ground := .phase }, { on := 2, ground := .phase }, { on := 3, ground := .phase }, { on := 4, ground := .phase }, { on := 5, ground := .phase }, { on := 6, ground := .phase }, { on := 7, ground := .phase }], guard := none } : Oper)) rfl (fun v wk hj hD K hK => ?_)) ?_
    · have h7 : v 7 = (.bool (T7)) := hD 7 (by decide)
      simp only [g9D, g9E, putAll, Act.put, List.getD_cons_succ, List.getD_cons_zero, List.setIfInBounds_toArray, List.set_cons_zero, List.set_cons_succ, h7] at hK ⊢
      go_simp
      exact hK.out _ _ (Below.refl _ _) rfl
    exact owes_nil
  · intro vf wf9 hj hr
    have hl : vf 8 = .bool T7 := hr 8 (by decide)
    simp only [g9D, putAll, Act.put, List.getD_cons_succ, List.getD_cons_zero, List.setIfInBounds_toArray, List.set_cons_zero, List.set_cons_succ, hl]
    clear hl hr
    have M9 := Lib.hid hj
    clear hj
    go_upto_region 10 with fail
    refine region_phase_all [0, 1, 2, 3, 4, 5, 6, 7, 8] g10D g10E (fun w' => PS w (d + 20) [] [(w.heap.size + 1 + 1, y), (w.heap.size + 1, b), (w.heap.size, a)] w') (saidOf [Is (a.v), IsPt 1 (.mk 5 [a.t] []), Is (b.v), IsPt 1 (.mk 3 [b.t] []), IsPw 1 2 [.mk 5 [a.t] [], .mk 3 [b.t] []], IsPt 13 (joinP 13 [.mk 5 [a.t] [], .mk 3 [b.t] []]), Is (y.v), Is (.bool (T8)), Is (.bool (T8))]) 104 (by rfl) (by kernel_rfl) (by kernel_rfl) (by kernel_rfl) (fun _ _ h hb => h.next hb) (stays_said _ (stays_cons (Is.stays _) (stays_cons (IsPt.stays _ _) (stays_cons (Is.stays _) (stays_cons (IsPt.stays _ _) (stays_cons (IsPw.stays _ _ _) (stays_cons (IsPt.stays _ _) (stays_cons (Is.stays _) (stays_cons (Is.stays _) (stays_cons (Is.stays _) stays_nil)))))))))) (M9.out.next (below_drewN _ _ 1)) (by kernel_rfl) ?_ ?_
    · skip
      refine owes_cons (Owes.mk (o := ({ dst := some 72, op := .load 27 (.tmp 3), type := 27, pos := "more.go:22", after := #[], guard := none } : Oper)) rfl (fun v wk hj hD K hK => ?_)) ?_
      · simp only [g10D, g10E, putAll, Act.put, List.getD_cons_zero, List.setIfInBounds_toArray, List.set_cons_zero, List.set_cons_succ] at hK ⊢
        obtain ⟨⟨a0, a1, a2, a3, a4, _⟩, _⟩ := hj.v (w.heap.size, a) (by simp)
        go_simp
        exact hK.out _ _ (Below.refl _ _) rfl
      refine owes_cons (Owes.mk (o := ({ dst := some 73, op := .call { callee := .value (.func 21), args := #[.const (.int .i64 5), .tmp 72], argTypes := #[3, 27] }, type := 25, pos := "more.go:22", after := #[{ on := 0, ground := .data }], guard := none } : Oper)) rfl (fun v wk hj hD K hK => ?_)) ?_
      · have h0 : v 0 = (a.v) := hD 0 (by decide)
        simp only [g10D, g10E, putAll, Act.put, List.getD_cons_succ, List.getD_cons_zero, List.setIfInBounds_toArray, List.set_cons_zero, List.set_cons_succ, h0] at hK ⊢
        go_simp
        refine (one_any wk (d + 20) 5 (by omega) a (hj.v (w.heap.size, a) (by simp)).2).mono ?_
        rintro e w2 ⟨z, rfl, tz, iz, hb⟩
        exact hK.out _ _ hb ⟨z, rfl, tz, iz⟩
      refine owes_cons (Owes.mk (o := ({ dst := some 74, op := .load 27 (.tmp 4), type := 27, pos := "more.go:22", after := #[], guard := none } : Oper)) rfl (fun v wk hj hD K hK => ?_)) ?_
      · simp only [g10D, g10E, putAll, Act.put, List.getD_cons_succ, List.getD_cons_zero, List.setIfInBounds_toArray, List.set_cons_zero, List.set_cons_succ] at hK ⊢
        obtain ⟨⟨a0, a1, a2, a3, a4, _⟩, _⟩ := hj.v (w.heap.size + 1, b) (by simp)
        go_simp
        exact hK.out _ _ (Below.refl _ _) rfl
      refine owes_cons (Owes.mk (o := ({ dst := some 75, op := .call { callee := .value (.func 21), args := #[.const (.int .i64 3), .tmp 74], argTypes := #[3, 27] }, type := 25, pos := "more.go:22", after := #[{ on := 2, ground := .data }, { on := 1, ground := .chain }], guard := none } : Oper)) rfl (fun v wk hj hD K hK => ?_)) ?_
      · have h2 : v 2 = (b.v) := hD 2 (by decide)
        simp only [g10D, g10E, putAll, Act.put, List.getD_cons_succ, List.getD_cons_zero, List.setIfInBounds_toArray, List.set_cons_zero, List.set_cons_succ, h2] at hK ⊢
        go_simp
        refine (one_any wk (d + 20) 3 (by omega) b (hj.v (w.heap.size + 1, b) (by simp)).2).mono ?_
        rintro e w2 ⟨z, rfl, tz, iz, hb⟩
        exact hK.out _ _ hb ⟨z, rfl, tz, iz⟩
      refine owes_cons (Owes.mk (o := ({ dst := some 76, op := .buildSlice 23 2 #[(0, .tmp 73), (1, .tmp 75)], type := 23, pos := "more.go:22", after := #[{ on := 1, ground := .data }, { on := 3, ground := .data }], guard := none } : Oper)) rfl (fun v wk hj hD K hK => ?_)) ?_
      · obtain ⟨q1, h1, t1, r1⟩ : IsPt 1 (.mk 5 [a.t] []) (v 1) wk := hD 1 (by decide)
        obtain ⟨q3, h3, t3, r3⟩ : IsPt 1 (.mk 3 [b.t] []) (v 3) wk := hD 3 (by decide)
        simp only [g10D, g10E, putAll, Act.put, List.getD_cons_succ, List.getD_cons_zero, List.setIfInBounds_toArray, List.set_cons_zero, List.set_cons_succ, h1, h3] at hK ⊢
        replace t1 := Lib.hid t1
        replace t3 := Lib.hid t3
        go_simp
        exact hK.out _ _ (below_new _ _) (isPw_two wk q1 q3 1 _ _ t1.out t3.out r1 r3)
      refine owes_cons (Owes.mk (o := ({ dst := some 77, op := .call { callee := .value (.func 25), args := #[.const (.int .i64 13), .tmp 76], argTypes := #[3, 23] }, type := 25, pos := "more.go:22", after := #[{ on := 4, ground := .data }, { on := 3, ground := .chain }], guard := none } : Oper)) rfl (fun v wk hj hD K hK => ?_)) ?_
      · obtain ⟨A4, c4, h4, l4, r4⟩ : IsPw 1 2 [.mk 5 [a.t] [], .mk 3 [b.t] []] (v 4) wk := hD 4 (by decide)
        simp only [g10D, g10E, putAll, Act.put, List.getD_cons_succ, List.getD_cons_zero, List.setIfInBounds_toArray, List.set_cons_zero, List.set_cons_succ, h4] at hK ⊢
        go_simp
        refine (k_join wk 1 13 (by omega) A4 c4 (.mk 5 [a.t] []) (.mk 3 [b.t] []) r4).mono ?_
        rintro e w2 ⟨z, rfl, tz, iz, hb⟩
        exact hK.out _ _ hb ⟨z, rfl, tz, iz⟩
      refine owes_cons (Owes.mk (o := ({ dst := some 78, op := .load 27 (.tmp 5), type := 27, pos := "more.go:22", after := #[], guard := none } : Oper)) rfl (fun v wk hj hD K hK => ?_)) ?_
      · simp only [g10D, g10E, putAll, Act.put, List.getD_cons_succ, List.getD_cons_zero, List.setIfInBounds_toArray, List.set_cons_zero, List.set_cons_succ] at hK ⊢
        obtain ⟨⟨a0, a1, a2, a3, a4, _⟩, _⟩ := hj.v (w.heap.size + 1 + 1, y) (by simp)
        go_simp
        exact hK.out _ _ (Below.refl _ _) rfl
      refine owes_cons (Owes.mk (o := ({ dst := some 79, op := .call { callee := .value (.func 14), args := #[.tmp 77, .tmp 78], argTypes := #[25, 27] }, type := 4, pos := "more.go:22", after := #[{ on := 5, ground := .data }, { on := 6, ground := .data }, { on := 5, ground := .chain }], guard := none } : Oper)) rfl (fun v wk hj hD K hK => ?_)) ?_
      · obtain ⟨q5, h5, t5, r5⟩ : IsPt 13 (joinP 13 [.mk 5 [a.t] [], .mk 3 [b.t] []]) (v 5) wk := hD 5 (by decide)
        have h6 : v 6 = (y.v) := hD 6 (by decide)
        simp only [g10D, g10E, putAll, Act.put, List.getD_cons_succ, List.getD_cons_zero, List.setIfInBounds_toArray, List.set_cons_zero, List.set_cons_succ, h5, h6] at hK ⊢
        go_simp
        refine (k_test wk 13 (d + 20) q5 y r5 (hj.v (w.heap.size + 1 + 1, y) (by simp)).2 T8 (by rw [t5]; exact J8.out)).mono ?_
        rintro e w2 ⟨rfl, hb⟩
        exact hK.out _ _ hb rfl
      refine owes_cons (Owes.mk (o := ({ dst := some 12, op := .assign (.tmp 79), type := 4, pos := "more.go:22", after := #[{ on := 7, ground := .data }, { on := 7, ground := .chain }, { on := 0, ground := .phase }, { on := 1, ground := .phase }, { on := 2, ground := .phase }, { on := 3, ground := .phase }, { on := 4, ground := .phase }, { on := 5, ground := .phase }, { on := 6, ground := .phase }, { on := 7, ground := .phase }], guard := none } : Oper)) rfl (fun v wk hj hD K hK => ?_)) ?_
      · have h7 : v 7 = (.bool (T8)) := hD 7 (by decide)
        simp only [g10D, g10E, putAll, Act.put, List.getD_cons_succ, List.getD_cons_zero, List.setIfInBounds_toArray, List.set_cons_zero, List.set_cons_succ, h7] at hK ⊢
        go_simp
        exact hK.out _ _ (Below.refl _ _) rfl
      exact owes_nil
    · intro vf wf10 hj hr
      have hl : vf 8 = .bool T8 := hr 8 (by decide)
      simp only [g10D, putAll, Act.put, List.getD_cons_succ, List.getD_cons_zero, List.setIfInBounds_toArray, List.set_cons_zero, List.set_cons_succ, hl]
      clear hl hr
      have M10 := Lib.hid hj
      clear hj
      go_upto_region 11 with fail
      refine region_phase_all [0, 1, 2, 3, 4, 5, 6, 7, 8] g11D g11E (fun w' => PS w (d + 20) [] [(w.heap.size + 1 + 1, y), (w.heap.size + 1, b), (w.heap.size, a)] w') (saidOf [Is (a.v), IsPt 1 (.mk 3 [a.t] []), Is (b.v), IsPt 1 (.mk 5 [b.t] []), IsPw 1 2 [.mk 3 [a.t] [], .mk 5 [b.t] []], IsPt 13 (joinP 14 [.mk 3 [a.t] [], .mk 5 [b.t] []]), Is (y.v), Is (.bool (T9)), Is (.bool (T9))]) 104 (by rfl) (by kernel_rfl) (by kernel_rfl) (by kernel_rfl) (fun _ _ h hb => h.next hb) (stays_said _ (stays_cons (Is.stays _) (stays_cons (IsPt.stays _ _) (stays_cons (Is.stays _) (stays_cons (IsPt.stays _ _) (stays_cons (IsPw.stays _ _ _) (stays_cons (IsPt.stays _ _) (stays_cons (Is.stays _) (stays_cons (Is.stays _) (stays_cons (Is.stays _) stays_nil)))))))))) (M10.out.next (below_drewN _ _ 1)) (by kernel_rfl) ?_ ?_
      · skip
        refine owes_cons (Owes.mk (o := ({ dst := some 80, op := .load 27 (.tmp 3), type := 27, pos := "more.go:23", after := #[], guard := none } : Oper)) rfl (fun v wk hj hD K hK => ?_)) ?_
        · simp only [g11D, g11E, putAll, Act.put, List.getD_cons_zero, List.setIfInBounds_toArray, List.set_cons_zero, List.set_cons_succ] at hK ⊢
          obtain ⟨⟨a0, a1, a2, a3, a4, _⟩, _⟩ := hj.v (w.heap.size, a) (by simp)
          go_simp
          exact hK.out _ _ (Below.refl _ _) rfl
        refine owes_cons (Owes.mk (o := ({ dst := some 81, op := .call { callee := .value (.func 21), args := #[.const (.int .i64 3), .tmp 80], argTypes := #[3, 27] }, type := 25, pos := "more.go:23", after := #[{ on := 0, ground := .data }], guard := none } : Oper)) rfl (fun v wk hj hD K hK => ?_)) ?_
        · have h0 : v 0 = (a.v) := hD 0 (by decide)
          simp only [g11D, g11E, putAll, Act.put, List.getD_cons_succ, List.getD_cons_zero, List.setIfInBounds_toArray, List.set_cons_zero, List.set_cons_succ, h0] at hK ⊢
          go_simp
          refine (one_any wk (d + 20) 3 (by omega) a (hj.v (w.heap.size, a) (by simp)).2).mono ?_
          rintro e w2 ⟨z, rfl, tz, iz, hb⟩
          exact hK.out _ _ hb ⟨z, rfl, tz, iz⟩
        refine owes_cons (Owes.mk (o := ({ dst := some 82, op := .load 27 (.tmp 4), type := 27, pos := "more.go:23", after := #[], guard := none } : Oper)) rfl (fun v wk hj hD K hK => ?_)) ?_
        · simp only [g11D, g11E, putAll, Act.put, List.getD_cons_succ, List.getD_cons_zero, List.setIfInBounds_toArray, List.set_cons_zero, List.set_cons_succ] at hK ⊢
          obtain ⟨⟨a0, a1, a2, a3, a4, _⟩, _⟩ := hj.v (w.heap.size + 1, b) (by simp)
          go_simp
          exact hK.out _ _ (Below.refl _ _) rfl
        refine owes_cons (Owes.mk (o := ({ dst := some 83, op := .call { callee := .value (.func 21), args := #[.const (.int .i64 5), .tmp 82], argTypes := #[3, 27] }, type := 25, pos := "more.go:23", after := #[{ on := 2, ground := .data }, { on := 1, ground := .chain }], guard := none } : Oper)) rfl (fun v wk hj hD K hK => ?_)) ?_
        · have h2 : v 2 = (b.v) := hD 2 (by decide)
          simp only [g11D, g11E, putAll, Act.put, List.getD_cons_succ, List.getD_cons_zero, List.setIfInBounds_toArray, List.set_cons_zero, List.set_cons_succ, h2] at hK ⊢
          go_simp
          refine (one_any wk (d + 20) 5 (by omega) b (hj.v (w.heap.size + 1, b) (by simp)).2).mono ?_
          rintro e w2 ⟨z, rfl, tz, iz, hb⟩
          exact hK.out _ _ hb ⟨z, rfl, tz, iz⟩
        refine owes_cons (Owes.mk (o := ({ dst := some 84, op := .buildSlice 23 2 #[(0, .tmp 81), (1, .tmp 83)], type := 23, pos := "more.go:23", after := #[{ on := 1, ground := .data }, { on := 3, ground := .data }], guard := none } : Oper)) rfl (fun v wk hj hD K hK => ?_)) ?_
        · obtain ⟨q1, h1, t1, r1⟩ : IsPt 1 (.mk 3 [a.t] []) (v 1) wk := hD 1 (by decide)
          obtain ⟨q3, h3, t3, r3⟩ : IsPt 1 (.mk 5 [b.t] []) (v 3) wk := hD 3 (by decide)
          simp only [g11D, g11E, putAll, Act.put, List.getD_cons_succ, List.getD_cons_zero, List.setIfInBounds_toArray, List.set_cons_zero, List.set_cons_succ, h1, h3] at hK ⊢
          replace t1 := Lib.hid t1
          replace t3 := Lib.hid t3
          go_simp
          exact hK.out _ _ (below_new _ _) (isPw_two wk q1 q3 1 _ _ t1.out t3.out r1 r3)
        refine owes_cons (Owes.mk (o := ({ dst := some 85, op := .call { callee := .value (.func 25), args := #[.const (.int .i64 14), .tmp 84], argTypes := #[3, 23] }, type := 25, pos := "more.go:23", after := #[{ on := 4, ground := .data }, { on := 3, ground := .chain }], guard := none } : Oper)) rfl (fun v wk hj hD K hK => ?_)) ?_
        · obtain ⟨A4, c4, h4, l4, r4⟩ : IsPw 1 2 [.mk 3 [a.t] [], .mk 5 [b.t] []] (v 4) wk := hD 4 (by decide)
          simp only [g11D, g11E, putAll, Act.put, List.getD_cons_succ, List.getD_cons_zero, List.setIfInBounds_toArray, List.set_cons_zero, List.set_cons_succ, h4] at hK ⊢
          go_simp
          refine (k_join wk 1 14 (by omega) A4 c4 (.mk 3 [a.t] []) (.mk 5 [b.t] []) r4).mono ?_
          rintro e w2 ⟨z, rfl, tz, iz, hb⟩
          exact hK.out _ _ hb ⟨z, rfl, tz, iz⟩
        refine owes_cons (Owes.mk (o := ({ dst := some 86, op := .load 27 (.tmp 5), type := 27, pos := "more.go:23", after := #[], guard := none } : Oper)) rfl (fun v wk hj hD K hK => ?_)) ?_
        · simp only [g11D, g11E, putAll, Act.put, List.getD_cons_succ, List.getD_cons_zero, List.setIfInBounds_toArray, List.set_cons_zero, List.set_cons_succ] at hK ⊢
          obtain ⟨⟨a0, a1, a2, a3, a4, _⟩, _⟩ := hj.v (w.heap.size + 1 + 1, y) (by simp)
          go_simp
          exact hK.out _ _ (Below.refl _ _) rfl
        refine owes_cons (Owes.mk (o := ({ dst := some 87, op := .call { callee := .value (.func 14), args := #[.tmp 85, .tmp 86], argTypes := #[25, 27] }, type := 4, pos := "more.go:23", after := #[{ on := 5, ground := .data }, { on := 6, ground := .data }, { on := 5, ground := .chain }], guard := none } : Oper)) rfl (fun v wk hj hD K hK => ?_)) ?_
        · obtain ⟨q5, h5, t5, r5⟩ : IsPt 13 (joinP 14 [.mk 3 [a.t] [], .mk 5 [b.t] []]) (v 5) wk := hD 5 (by decide)
          have h6 : v 6 = (y.v) := hD 6 (by decide)
          simp only [g11D, g11E, putAll, Act.put, List.getD_cons_succ, List.getD_cons_zero, List.setIfInBounds_toArray, List.set_cons_zero, List.set_cons_succ, h5, h6] at hK ⊢
          go_simp
          refine (k_test wk 13 (d + 20) q5 y r5 (hj.v (w.heap.size + 1 + 1, y) (by simp)).2 T9 (by rw [t5]; exact J9.out)).mono ?_
          rintro e w2 ⟨rfl, hb⟩
          exact hK.out _ _ hb rfl
        refine owes_cons (Owes.mk (o := ({ dst := some 13, op := .assign (.tmp 87), type := 4, pos := "more.go:23", after := #[{ on := 7, ground := .data }, { on := 7, ground := .chain }, { on := 0, ground := .phase }, { on := 1, ground := .phase }, { on := 2, ground := .phase }, { on := 3, ground := .phase }, { on := 4, ground := .phase }, { on := 5, ground := .phase }, { on := 6, ground := .phase }, { on := 7, ground := .phase }], guard := none } : Oper)) rfl (fun v wk hj hD K hK => ?_)) ?_
        · have h7 : v 7 = (.bool (T9)) := hD 7 (by decide)
          simp only [g11D, g11E, putAll, Act.put, List.getD_cons_succ, List.getD_cons_zero, List.setIfInBounds_toArray, List.set_cons_zero, List.set_cons_succ, h7] at hK ⊢
          go_simp
          exact hK.out _ _ (Below.refl _ _) rfl
        exact owes_nil
      · intro vf wf11 hj hr
        have hl : vf 8 = .bool T9 := hr 8 (by decide)
        simp only [g11D, putAll, Act.put, List.getD_cons_succ, List.getD_cons_zero, List.setIfInBounds_toArray, List.set_cons_zero, List.set_cons_succ, hl]
        clear hl hr
        have M11 := Lib.hid hj
        clear hj
        have e7 : (T7 == T7) = true := by simp
        have e8 : (T8 == T8) = true := by simp
        have e9 : (T9 == T9) = true := by simp
        go_wp2_with fail
        refine (known_any wf11).mono ?_
        rintro e wk ⟨rfl, hbk⟩
        have BK := Lib.hid (bnext M11.out.bel hbk)
        clear hbk
        go_wp2
        go_ret
        exact ⟨rfl, BK.out⟩
end Go.Proofs.Ytiiccefnfepccaa
