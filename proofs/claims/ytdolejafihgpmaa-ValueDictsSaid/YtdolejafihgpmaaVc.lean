/- The law on rows of one and of two. -/
import Derived.Test.YtdolejafihgpmaaVb
import Derived.Test.YtdolejafihgpmaaVp
import Derived.Test.YtdolejafihgpmaaRd
import Derived.Test.YtdolejafihgpmaaPh
import Derived.Deep.DeepCutAuto
import Derived.Deep.Cut
import Derived.IntWalk
namespace Go.Proofs.Ytdolejafihgpmaa
open Go.RowKit
attribute [local go_sem ↓] Go.wp_at_zero Go.wp_at_succ

theorem At.In.up {x : At} {w : World} {n m : Nat} (h : x.In w n) (hm : n ≤ m) : x.In w m := Rd.more h (Nat.le_refl _) (Nat.le_refl _) hm
/-- Values in their boxes. -/
structure Bxs (w0 w : World) (d : Nat) (l : List (Nat × At)) : Prop where
  at_ : ∀ p ∈ l, Bx w p.1 p.2 ∧ p.2.In w d
  bel : Below w0.heap.size w0 w
theorem Bxs.next {w0 a b : World} {d : Nat} {l : List (Nat × At)} (h : Bxs w0 a d l) (hb : Below a.heap.size a b) : Bxs w0 b d l :=
  ⟨fun p hp => ⟨(h.at_ p hp).1.next hb, (h.at_ p hp).2.next hb⟩, bnext h.bel hb⟩
theorem Bxs.push {w0 a : World} {d : Nat} {l : List (Nat × At)} (h : Bxs w0 a d l) {x : At} (hx : x.In a d) : Bxs w0 (a.alloc (.cells #[.int .i64 x.t.k, .int .i64 x.t.n, .string x.t.s, .slice x.A x.t.l.length x.c, .slice x.A' x.t.m.length x.c'] 24)) d ((a.heap.size, x) :: l) :=
  ⟨fun p hp => by
    rcases List.mem_cons.1 hp with rfl | hp
    · exact ⟨Bx.new a x, hx.next (below_new _ _)⟩
    · exact ⟨(h.at_ p hp).1.next (below_new _ _), (h.at_ p hp).2.next (below_new _ _)⟩, bnext h.bel (below_new _ _)⟩
theorem Bxs.box {w0 w : World} {d : Nat} {l : List (Nat × At)} (h : Bxs w0 w d l) (g : Nat) (x : At) (hm : (g, x) ∈ l) : Bx w g x := (h.at_ _ hm).1
theorem Bxs.in_ {w0 w : World} {d : Nat} {l : List (Nat × At)} (h : Bxs w0 w d l) (g : Nat) (x : At) (hm : (g, x) ∈ l) : x.In w d := (h.at_ _ hm).2
theorem B2.bxs {w0 w : World} {d g1 g2 : Nat} {x y : At} (h : B2 w0 w d g1 g2 x y) : Bxs w0 w d [(g2, y), (g1, x)] :=
  ⟨fun p hp => by
    simp only [List.mem_cons, List.not_mem_nil, or_false] at hp
    rcases hp with rfl | rfl
    · exact ⟨h.b2, h.i2⟩
    · exact ⟨h.b1, h.i1⟩, h.bel⟩
/-- A row that was made. -/
def RowPost (w : World) (l : List V) (e : Ending) (w' : World) : Prop := ∃ r : At, r.t = rowV l ∧ e = .returned r.v ∧ r.In w' 14 ∧ Below w.heap.size w w'
theorem row_post (w : World) (d : Nat) (A : Option Addr) (c : Nat) (l : List V) (h : Rw w 0 w.heap.size d A c l) : Calls Try.prog 29 #[.slice A l.length c] w (RowPost w l) :=
  (row_any w d l A c h).mono fun _ _ ⟨A, c, A', c', he, rd, _, _, hb⟩ => ⟨⟨rowV l, A, c, A', c'⟩, rfl, he, Rd.more rd (Nat.zero_le _) (Nat.le_refl _) (Nat.le_refl _), hb⟩
theorem row_one (w : World) (d : Nat) (x : At) (hx : x.In w d) : Calls Try.prog 29 #[.slice (some ⟨w.heap.size, 0, none⟩) 1 1] (w.alloc (.cells #[.int .i64 x.t.k, .int .i64 x.t.n, .string x.t.s, .slice x.A x.t.l.length x.c, .slice x.A' x.t.m.length x.c'] 24)) (fun e w' => RowPost w [x.t] e w') :=
  (row_post _ d _ _ _ (row_lay w d [x] (by simpa using hx) (by simp))).mono fun _ _ ⟨r, h1, h2, h3, h4⟩ => ⟨r, h1, h2, h3, bnext (below_new _ _) h4⟩
theorem row_two (w : World) (d : Nat) (x y : At) (hx : x.In w d) (hy : y.In w d) : Calls Try.prog 29 #[.slice (some ⟨w.heap.size, 0, none⟩) 2 2] (w.alloc (.cells #[.int .i64 x.t.k, .int .i64 x.t.n, .string x.t.s, .slice x.A x.t.l.length x.c, .slice x.A' x.t.m.length x.c', .int .i64 y.t.k, .int .i64 y.t.n, .string y.t.s, .slice y.A y.t.l.length y.c, .slice y.A' y.t.m.length y.c'] 24)) (fun e w' => RowPost w [x.t, y.t] e w') :=
  (row_post _ d _ _ _ (row_lay w d [x, y] (by intro q hq; simp only [List.mem_cons, List.not_mem_nil, or_false] at hq; rcases hq with rfl | rfl <;> assumption) (by simp))).mono fun _ _ ⟨r, h1, h2, h3, h4⟩ => ⟨r, h1, h2, h3, bnext (below_new _ _) h4⟩
theorem row_none (w : World) : Calls Try.prog 29 #[.slice none 0 0] w (RowPost w []) := row_post w 1 none 0 [] (rw_nil _ _ _ _)
theorem depth_at (w : World) (d : Nat) (x : At) (hx : x.In w d) : Calls Try.prog 18 #[x.v] w fun e w' => e = .returned (.int .i64 (depV 12 x.t)) ∧ Below w.heap.size w w' := depth_any w d x.t _ _ _ _ hx
theorem refDepth_at (w : World) (d : Nat) (x : At) (hx : x.In w d) : Calls Try.prog 19 #[x.v] w fun e w' => e = .returned (.int .i64 (depV 12 x.t)) ∧ Below w.heap.size w w' := refDepth_any w d x.t _ _ _ _ hx
theorem check_at (w : World) (d : Nat) (x : At) (hx : x.In w d) : Calls Try.prog 16 #[x.v] w fun e w' => e = .returned (.int .i64 (errI (okV 12 x.t))) ∧ Below w.heap.size w w' := check_any w d x.t _ _ _ _ hx
/-- A value, with that tree. -/
def IsAt (d : Nat) (t : V) : Value → World → Prop := fun x w => ∃ q : At, x = q.v ∧ q.t = t ∧ q.In w d
theorem IsAt.stays (d : Nat) (t : V) : Stays (IsAt d t) := fun _ _ _ ⟨q, e, h, hi⟩ hb => ⟨q, e, h, hi.next hb⟩
theorem size_out {w W : World} {o : Obj} (h : w.alloc o = W) : w.heap.size < W.heap.size := by rw [← h]; simp

def n7D : Nat → Tmp := fun j => [26, 27, 28, 29, 30, 31, 32, 33, 34, 35, 36, 37, 38, 39, 40, 41, 42, 43, 44].getD j 0
def n7E : Nat → List Nat := fun j => [[], [0], [], [2], [3], [1, 4], [5], [6], [6, 7], [6, 8], [6], [6, 10], [6, 11], [6, 12], [13], [13, 14], [6, 13, 15], [6, 9, 16], [6, 17]].getD j []
def n9D : Nat → Tmp := fun j => [45, 46, 47, 48, 49, 50, 51, 52, 53, 54, 55, 56, 57, 58, 59, 60].getD j 0
def n9E : Nat → List Nat := fun j => [[], [0], [1], [2], [2, 3], [2, 4], [2, 5], [6], [7], [7], [7, 8, 9], [7], [7], [7, 11, 12], [7, 10, 13], [7, 14]].getD j []
def n11D : Nat → Tmp := fun j => [61, 62, 63, 64, 65, 66, 67, 68, 69, 70, 71, 72, 73, 4].getD j 0
def n11E : Nat → List Nat := fun j => [[], [], [0, 1], [2], [3], [4], [4], [4, 5, 6], [4, 7], [4, 8], [9], [10], [10, 11], [12]].getD j []

set_option maxHeartbeats 8000000 in
set_option maxRecDepth 100000 in
theorem nests_law (w : World) (d : Nat) (x y : At) (hx : x.In w d) (hy : y.In w d) : Calls Try.prog 9 #[x.v, y.v] w fun e w' => e = .returned (.bool true) ∧ Below w.heap.size w w' := by
  have HX := Lib.hid (hx.up (show d ≤ d + 14 by omega))
  have HY := Lib.hid (hy.up (show d ≤ d + 14 by omega))
  clear hx hy
  go_enter Try.func9, Try.ntmps9
  go_upto_region 1 with fail
  generalize hW : World.alloc (World.alloc _ _) _ = W
  have H0 := Lib.hid (B2.new w (d + 14) x y HX.out HY.out W hW).bxs
  clear hW
  generalize w.heap.size + 1 = g2 at H0
  generalize hg : w.heap.size = g1 at H0
  clear hg
  obtain ⟨a0, a1, a2, a3, a4, _⟩ := H0.out.box g1 x (by simp)
  obtain ⟨b0, b1, b2, b3, b4, _⟩ := H0.out.box g2 y (by simp)
  go_wp2_with fail
  refine (lots2 W (d + 14) x y (H0.out.in_ g1 x (by simp)) (H0.out.in_ g2 y (by simp))).mono ?_
  rintro e w1 ⟨bb, rfl, hb1⟩
  have H1 := Lib.hid ((H0.out.next (below_new _ _)).next hb1)
  clear hb1 H0 a0 a1 a2 a3 a4 b0 b1 b2 b3 b4 HX HY
  cases bb
  · obtain ⟨a0, a1, a2, a3, a4, _⟩ := H1.out.box g1 x (by simp)
    go_wp2_with fail
    refine (row_one w1 (d + 14) x (H1.out.in_ g1 x (by simp))).mono ?_
    rintro e w2 ⟨r, hr, rfl, ir, hb⟩
    have HR := Lib.hid hr
    have H2 := Lib.hid ((H1.out.next hb).push (ir.up (show 14 ≤ d + 14 by omega)))
    clear hb hr ir H1 a0 a1 a2 a3 a4
    go_upto_region 4 with fail
    generalize World.alloc w2 _ = W2 at H2
    generalize w2.heap.size = g5 at H2
    obtain ⟨b0, b1, b2, b3, b4, _⟩ := H2.out.box g2 y (by simp)
    go_wp2_with fail
    refine (row_one W2 (d + 14) y (H2.out.in_ g2 y (by simp))).mono ?_
    rintro e w3 ⟨s, hs, rfl, is, hb⟩
    have HS := Lib.hid hs
    have H3 := Lib.hid ((H2.out.next hb).push (is.up (show 14 ≤ d + 14 by omega)))
    clear hb hs is H2 b0 b1 b2 b3 b4
    go_upto_region 5 with fail
    generalize World.alloc w3 _ = W3 at H3
    generalize w3.heap.size = g6 at H3
    obtain ⟨a0, a1, a2, a3, a4, _⟩ := H3.out.box g1 x (by simp)
    obtain ⟨b0, b1, b2, b3, b4, _⟩ := H3.out.box g2 y (by simp)
    go_wp2_with fail
    refine (row_two W3 (d + 14) x y (H3.out.in_ g1 x (by simp)) (H3.out.in_ g2 y (by simp))).mono ?_
    rintro e w4 ⟨u, hu, rfl, iu, hb⟩
    have HU := Lib.hid hu
    have H4 := Lib.hid ((H3.out.next hb).push (iu.up (show 14 ≤ d + 14 by omega)))
    clear hb hu iu H3 a0 a1 a2 a3 a4 b0 b1 b2 b3 b4
    go_upto_region 6 with fail
    generalize World.alloc w4 _ = W4 at H4
    generalize w4.heap.size = g7 at H4
    obtain ⟨a0, a1, a2, a3, a4, _⟩ := H4.out.box g1 x (by simp)
    go_wp2_with fail
    refine (refDepth_at W4 (d + 14) x (H4.out.in_ g1 x (by simp))).mono ?_
    rintro e w5 ⟨rfl, hb⟩
    have HB := Lib.hid (H4.out.next hb)
    clear hb H4 a0 a1 a2 a3 a4
    have hn1 := depV_le 12 x.t
    have HD0 := Lib.hid (dep_row_one x.t)
    have HOR0 := Lib.hid (ok_row_one x.t)
    have HN0 : Hid (decide (depV 12 x.t < 12) = decide ((depV 12 x.t : Int) < 12)) := Lib.hid (by rw [Bool.eq_iff_iff]; simp; omega)
    have HXY0 := Lib.hid (fun h1 h2 => cmp_row_one x.t y.t h1 h2)
    generalize hnn : (depV 12 x.t : Int) = n at HD0 HN0
    have HNN := Lib.hid hnn
    have n0 : 0 ≤ n := by omega
    have n13 : n ≤ 13 := by omega
    clear hnn hn1
    have HD : Hid ((depV 12 r.t : Int) = min (n + 1) 13) := Lib.hid (by rw [HR.out]; exact HD0.out)
    go_upto_region 7 with fail
    go_cut [44] (fun s44 wx => s44 = .bool false ∧ Hid (Bxs w wx (d + 14) [(g7, u), (g6, s), (g5, r), (g2, y), (g1, x)]))
    case first =>
      cases hox : okV 12 x.t
      · by_cases hlt : n < 12
        · have HOX := Lib.hid hox
          have HOR : Hid (okV 12 r.t = false) := Lib.hid (by rw [HR.out, HOR0.out, HOX.out, HN0.out]; rfl)
          clear hox
          go_wp2_with fail
          refine region_phase_all [0, 1, 2, 3, 4, 5, 6, 7, 8, 9, 10, 11, 12, 13, 14, 15, 16, 17, 18] n7D n7E (fun w' => Bxs w w' (d + 14) [(g7, u), (g6, s), (g5, r), (g2, y), (g1, x)]) (saidOf [Is r.v, Is (.int .i64 (min (n + 1) 13)), Is (.int .i64 (n)), Is (.int .i64 (n + 1)), Is (.int .i64 (min (n + 1) 13)), Is (.bool false), Is (.bool false), Is r.v, Is (.int .i64 (2)), Is (.bool false), Is x.v, Is (.int .i64 (2)), Is (.bool false), Is (.bool false), Is undef, Is undef, Is (.bool false), Is (.bool false), Is (.bool false)]) 74 rfl (by kernel_rfl) (by kernel_rfl) (by kernel_rfl) (fun _ _ h hb => h.next hb) (stays_said _ (stays_cons (Is.stays _) (stays_cons (Is.stays _) (stays_cons (Is.stays _) (stays_cons (Is.stays _) (stays_cons (Is.stays _) (stays_cons (Is.stays _) (stays_cons (Is.stays _) (stays_cons (Is.stays _) (stays_cons (Is.stays _) (stays_cons (Is.stays _) (stays_cons (Is.stays _) (stays_cons (Is.stays _) (stays_cons (Is.stays _) (stays_cons (Is.stays _) (stays_cons (Is.stays _) (stays_cons (Is.stays _) (stays_cons (Is.stays _) (stays_cons (Is.stays _) (stays_cons (Is.stays _) stays_nil)))))))))))))))))))) (HB.out.next (below_drewN _ _ 1)) (by kernel_rfl) ?_ ?_
          · skip
            refine owes_cons (Owes.mk (o := ({ dst := some 26, op := .load 24 (.tmp 5), type := 24, pos := "more.go:18", after := #[], guard := none } : Oper)) rfl (fun v wk hj hD K hK => ?_)) ?_
            · simp only [n7D, n7E, putAll, Act.put, List.getD_cons_zero, List.setIfInBounds_toArray, List.set_cons_zero, List.set_cons_succ] at hK ⊢
              obtain ⟨q0, q1, q2, q3, q4, _⟩ := hj.box g5 r (by simp)
              go_simp
              exact hK.out _ _ (Below.refl _ _) rfl
            refine owes_cons (Owes.mk (o := ({ dst := some 27, op := .call { callee := .value (.func 18), args := #[.tmp 26], argTypes := #[24] }, type := 3, pos := "more.go:18", after := #[{ on := 0, ground := .data }], guard := none } : Oper)) rfl (fun v wk hj hD K hK => ?_)) ?_
            · have h0 : v 0 = r.v := hD 0 (by decide)
              simp only [n7D, n7E, putAll, Act.put, List.getD_cons_succ, List.getD_cons_zero, List.setIfInBounds_toArray, List.set_cons_zero, List.set_cons_succ, h0] at hK ⊢
              go_simp
              refine (depth_at _ _ r (hj.in_ g5 r (by simp))).mono ?_
              rintro e w2 ⟨rfl, hb⟩
              exact hK.out _ _ hb (show Value.int _ _ = _ by rw [HD.out])
            refine owes_cons (Owes.mk (o := ({ dst := some 28, op := .move (.tmp 8), type := 3, pos := "more.go:18", after := #[], guard := none } : Oper)) rfl (fun v wk hj hD K hK => ?_)) ?_
            · simp only [n7D, n7E, putAll, Act.put, List.getD_cons_succ, List.getD_cons_zero, List.setIfInBounds_toArray, List.set_cons_zero, List.set_cons_succ] at hK ⊢
              go_simp
              exact hK.out _ _ (Below.refl _ _) rfl
            refine owes_cons (Owes.mk (o := ({ dst := some 29, op := .binOp .add 3 (.tmp 28) (.const (.int .i64 1)) 3, type := 3, pos := "more.go:18", after := #[{ on := 2, ground := .data }], guard := none } : Oper)) rfl (fun v wk hj hD K hK => ?_)) ?_
            · have h2 : v 2 = (.int .i64 (n)) := hD 2 (by decide)
              simp only [n7D, n7E, putAll, Act.put, List.getD_cons_succ, List.getD_cons_zero, List.setIfInBounds_toArray, List.set_cons_zero, List.set_cons_succ, h2] at hK ⊢
              have e3 : IntKind.i64.wrap (n + 1) = n + 1 := IntWalk.i64_in _ (by omega)
              go_simp
              exact hK.out _ _ (Below.refl _ _) rfl
            refine owes_cons (Owes.mk (o := ({ dst := some 30, op := .call { callee := .builtin .min, args := #[.tmp 29, .const (.int .i64 13)], argTypes := #[3, 3] }, type := 3, pos := "more.go:18", after := #[{ on := 3, ground := .data }], guard := none } : Oper)) rfl (fun v wk hj hD K hK => ?_)) ?_
            · have h3 : v 3 = (.int .i64 (n + 1)) := hD 3 (by decide)
              simp only [n7D, n7E, putAll, Act.put, List.getD_cons_succ, List.getD_cons_zero, List.setIfInBounds_toArray, List.set_cons_zero, List.set_cons_succ, h3] at hK ⊢
              go_simp
              exact hK.out _ _ (Below.refl _ _) (show Value.int _ _ = _ by rw [Int.min_eq_left (by omega)])
            refine owes_cons (Owes.mk (o := ({ dst := some 31, op := .binOp .neq 3 (.tmp 27) (.tmp 30) 3, type := 4, pos := "more.go:18", after := #[{ on := 1, ground := .data }, { on := 4, ground := .data }], guard := none } : Oper)) rfl (fun v wk hj hD K hK => ?_)) ?_
            · have h1 : v 1 = (.int .i64 (min (n + 1) 13)) := hD 1 (by decide)
              have h4 : v 4 = (.int .i64 (min (n + 1) 13)) := hD 4 (by decide)
              simp only [n7D, n7E, putAll, Act.put, List.getD_cons_succ, List.getD_cons_zero, List.setIfInBounds_toArray, List.set_cons_zero, List.set_cons_succ, h1, h4] at hK ⊢
              go_simp
              exact hK.out _ _ (Below.refl _ _) rfl
            refine owes_cons (Owes.mk (o := ({ dst := some 32, op := .move (.tmp 31), type := 4, pos := "more.go:18", after := #[{ on := 5, ground := .data }, { on := 1, ground := .chain }], guard := none } : Oper)) rfl (fun v wk hj hD K hK => ?_)) ?_
            · have h5 : v 5 = (.bool false) := hD 5 (by decide)
              simp only [n7D, n7E, putAll, Act.put, List.getD_cons_succ, List.getD_cons_zero, List.setIfInBounds_toArray, List.set_cons_zero, List.set_cons_succ, h5] at hK ⊢
              go_simp
              exact hK.out _ _ (Below.refl _ _) rfl
            refine owes_cons (Owes.mk (o := ({ dst := some 33, op := .load 24 (.tmp 5), type := 24, pos := "more.go:18", after := #[{ on := 6, ground := .guard }], guard := some (6, false) } : Oper)) rfl (fun v wk hj hD K hK => ?_)) ?_
            · have h6 : v 6 = (.bool false) := hD 6 (by decide)
              simp only [n7D, n7E, putAll, Act.put, List.getD_cons_succ, List.getD_cons_zero, List.setIfInBounds_toArray, List.set_cons_zero, List.set_cons_succ, h6] at hK ⊢
              obtain ⟨q0, q1, q2, q3, q4, _⟩ := hj.box g5 r (by simp)
              go_simp
              exact hK.out _ _ (Below.refl _ _) rfl
            refine owes_cons (Owes.mk (o := ({ dst := some 34, op := .call { callee := .value (.func 16), args := #[.tmp 33], argTypes := #[24] }, type := 30, pos := "more.go:18", after := #[{ on := 7, ground := .data }, { on := 6, ground := .chain }, { on := 6, ground := .guard }], guard := some (6, false) } : Oper)) rfl (fun v wk hj hD K hK => ?_)) ?_
            · have h6 : v 6 = (.bool false) := hD 6 (by decide)
              have h7 : v 7 = r.v := hD 7 (by decide)
              simp only [n7D, n7E, putAll, Act.put, List.getD_cons_succ, List.getD_cons_zero, List.setIfInBounds_toArray, List.set_cons_zero, List.set_cons_succ, h6, h7] at hK ⊢
              go_simp
              refine (check_at _ _ r (hj.in_ g5 r (by simp))).mono ?_
              rintro e w2 ⟨rfl, hb⟩
              exact hK.out _ _ hb (show Value.int _ _ = _ by rw [HOR.out]; rfl)
            refine owes_cons (Owes.mk (o := ({ dst := some 35, op := .binOp .eql 30 (.tmp 34) (.const (.int .i64 0)) 30, type := 4, pos := "more.go:18", after := #[{ on := 8, ground := .data }, { on := 6, ground := .guard }], guard := some (6, false) } : Oper)) rfl (fun v wk hj hD K hK => ?_)) ?_
            · have h6 : v 6 = (.bool false) := hD 6 (by decide)
              have h8 : v 8 = (.int .i64 (2)) := hD 8 (by decide)
              simp only [n7D, n7E, putAll, Act.put, List.getD_cons_succ, List.getD_cons_zero, List.setIfInBounds_toArray, List.set_cons_zero, List.set_cons_succ, h6, h8] at hK ⊢
              go_simp
              exact hK.out _ _ (Below.refl _ _) rfl
            refine owes_cons (Owes.mk (o := ({ dst := some 36, op := .load 24 (.tmp 2), type := 24, pos := "more.go:18", after := #[{ on := 6, ground := .guard }], guard := some (6, false) } : Oper)) rfl (fun v wk hj hD K hK => ?_)) ?_
            · have h6 : v 6 = (.bool false) := hD 6 (by decide)
              simp only [n7D, n7E, putAll, Act.put, List.getD_cons_succ, List.getD_cons_zero, List.setIfInBounds_toArray, List.set_cons_zero, List.set_cons_succ, h6] at hK ⊢
              obtain ⟨q0, q1, q2, q3, q4, _⟩ := hj.box g1 x (by simp)
              go_simp
              exact hK.out _ _ (Below.refl _ _) rfl
            refine owes_cons (Owes.mk (o := ({ dst := some 37, op := .call { callee := .value (.func 16), args := #[.tmp 36], argTypes := #[24] }, type := 30, pos := "more.go:18", after := #[{ on := 10, ground := .data }, { on := 8, ground := .chain }, { on := 6, ground := .guard }], guard := some (6, false) } : Oper)) rfl (fun v wk hj hD K hK => ?_)) ?_
            · have h6 : v 6 = (.bool false) := hD 6 (by decide)
              have h10 : v 10 = x.v := hD 10 (by decide)
              simp only [n7D, n7E, putAll, Act.put, List.getD_cons_succ, List.getD_cons_zero, List.setIfInBounds_toArray, List.set_cons_zero, List.set_cons_succ, h6, h10] at hK ⊢
              go_simp
              refine (check_at _ _ x (hj.in_ g1 x (by simp))).mono ?_
              rintro e w2 ⟨rfl, hb⟩
              exact hK.out _ _ hb (show Value.int _ _ = _ by rw [HOX.out]; rfl)
            refine owes_cons (Owes.mk (o := ({ dst := some 38, op := .binOp .eql 30 (.tmp 37) (.const (.int .i64 0)) 30, type := 4, pos := "more.go:18", after := #[{ on := 11, ground := .data }, { on := 6, ground := .guard }], guard := some (6, false) } : Oper)) rfl (fun v wk hj hD K hK => ?_)) ?_
            · have h6 : v 6 = (.bool false) := hD 6 (by decide)
              have h11 : v 11 = (.int .i64 (2)) := hD 11 (by decide)
              simp only [n7D, n7E, putAll, Act.put, List.getD_cons_succ, List.getD_cons_zero, List.setIfInBounds_toArray, List.set_cons_zero, List.set_cons_succ, h6, h11] at hK ⊢
              go_simp
              exact hK.out _ _ (Below.refl _ _) rfl
            refine owes_cons (Owes.mk (o := ({ dst := some 39, op := .move (.tmp 38), type := 4, pos := "more.go:18", after := #[{ on := 12, ground := .data }, { on := 11, ground := .chain }, { on := 6, ground := .guard }], guard := some (6, false) } : Oper)) rfl (fun v wk hj hD K hK => ?_)) ?_
            · have h6 : v 6 = (.bool false) := hD 6 (by decide)
              have h12 : v 12 = (.bool false) := hD 12 (by decide)
              simp only [n7D, n7E, putAll, Act.put, List.getD_cons_succ, List.getD_cons_zero, List.setIfInBounds_toArray, List.set_cons_zero, List.set_cons_succ, h6, h12] at hK ⊢
              go_simp
              exact hK.out _ _ (Below.refl _ _) rfl
            refine owes_cons (Owes.mk (o := ({ dst := some 40, op := .move (.tmp 8), type := 3, pos := "more.go:18", after := #[{ on := 13, ground := .guard }], guard := some (13, true) } : Oper)) rfl (fun v wk hj hD K hK => ?_)) ?_
            · have h13 : v 13 = (.bool false) := hD 13 (by decide)
              simp only [n7D, n7E, putAll, Act.put, List.getD_cons_succ, List.getD_cons_zero, List.setIfInBounds_toArray, List.set_cons_zero, List.set_cons_succ, h13] at hK ⊢
              go_simp
              exact hK.out _ _ (Below.refl _ _) rfl
            refine owes_cons (Owes.mk (o := ({ dst := some 41, op := .binOp .lss 3 (.tmp 40) (.const (.int .i64 12)) 3, type := 4, pos := "more.go:18", after := #[{ on := 14, ground := .data }, { on := 13, ground := .guard }], guard := some (13, true) } : Oper)) rfl (fun v wk hj hD K hK => ?_)) ?_
            · have h13 : v 13 = (.bool false) := hD 13 (by decide)
              have h14 : v 14 = undef := hD 14 (by decide)
              simp only [n7D, n7E, putAll, Act.put, List.getD_cons_succ, List.getD_cons_zero, List.setIfInBounds_toArray, List.set_cons_zero, List.set_cons_succ, h13, h14] at hK ⊢
              go_simp
              exact hK.out _ _ (Below.refl _ _) rfl
            refine owes_cons (Owes.mk (o := ({ dst := some 42, op := .pick (.tmp 39) (.tmp 41) (.const (.bool false)), type := 4, pos := "more.go:18", after := #[{ on := 13, ground := .data }, { on := 15, ground := .data }, { on := 6, ground := .guard }], guard := some (6, false) } : Oper)) rfl (fun v wk hj hD K hK => ?_)) ?_
            · have h6 : v 6 = (.bool false) := hD 6 (by decide)
              have h13 : v 13 = (.bool false) := hD 13 (by decide)
              have h15 : v 15 = undef := hD 15 (by decide)
              simp only [n7D, n7E, putAll, Act.put, List.getD_cons_succ, List.getD_cons_zero, List.setIfInBounds_toArray, List.set_cons_zero, List.set_cons_succ, h6, h13, h15] at hK ⊢
              go_simp
              exact hK.out _ _ (Below.refl _ _) rfl
            refine owes_cons (Owes.mk (o := ({ dst := some 43, op := .binOp .neq 4 (.tmp 35) (.tmp 42) 4, type := 4, pos := "more.go:18", after := #[{ on := 9, ground := .data }, { on := 16, ground := .data }, { on := 6, ground := .guard }], guard := some (6, false) } : Oper)) rfl (fun v wk hj hD K hK => ?_)) ?_
            · have h6 : v 6 = (.bool false) := hD 6 (by decide)
              have h9 : v 9 = (.bool false) := hD 9 (by decide)
              have h16 : v 16 = (.bool false) := hD 16 (by decide)
              simp only [n7D, n7E, putAll, Act.put, List.getD_cons_succ, List.getD_cons_zero, List.setIfInBounds_toArray, List.set_cons_zero, List.set_cons_succ, h6, h9, h16] at hK ⊢
              go_simp
              exact hK.out _ _ (Below.refl _ _) rfl
            refine owes_cons (Owes.mk (o := ({ dst := some 44, op := .pick (.tmp 32) (.const (.bool true)) (.tmp 43), type := 4, pos := "more.go:18", after := #[{ on := 6, ground := .data }, { on := 17, ground := .data }], guard := none } : Oper)) rfl (fun v wk hj hD K hK => ?_)) ?_
            · have h6 : v 6 = (.bool false) := hD 6 (by decide)
              have h17 : v 17 = (.bool false) := hD 17 (by decide)
              simp only [n7D, n7E, putAll, Act.put, List.getD_cons_succ, List.getD_cons_zero, List.setIfInBounds_toArray, List.set_cons_zero, List.set_cons_succ, h6, h17] at hK ⊢
              go_simp
              exact hK.out _ _ (Below.refl _ _) rfl
            exact owes_nil
          · intro v wf hj hr
            have hl : v 18 = (.bool false) := hr 18 (by decide)
            simp only [n7D, putAll, Act.put, List.getD_cons_succ, List.getD_cons_zero, List.setIfInBounds_toArray, List.set_cons_zero, List.set_cons_succ, hl]
            clear hl hr
            go_wp2_with fail
            go_meet
            exact ⟨rfl, Lib.hid hj⟩
        · have HOX := Lib.hid hox
          have HOR : Hid (okV 12 r.t = false) := Lib.hid (by rw [HR.out, HOR0.out, HOX.out, HN0.out]; rfl)
          clear hox
          go_wp2_with fail
          refine region_phase_all [0, 1, 2, 3, 4, 5, 6, 7, 8, 9, 10, 11, 12, 13, 14, 15, 16, 17, 18] n7D n7E (fun w' => Bxs w w' (d + 14) [(g7, u), (g6, s), (g5, r), (g2, y), (g1, x)]) (saidOf [Is r.v, Is (.int .i64 (min (n + 1) 13)), Is (.int .i64 (n)), Is (.int .i64 (n + 1)), Is (.int .i64 (min (n + 1) 13)), Is (.bool false), Is (.bool false), Is r.v, Is (.int .i64 (2)), Is (.bool false), Is x.v, Is (.int .i64 (2)), Is (.bool false), Is (.bool false), Is undef, Is undef, Is (.bool false), Is (.bool false), Is (.bool false)]) 74 rfl (by kernel_rfl) (by kernel_rfl) (by kernel_rfl) (fun _ _ h hb => h.next hb) (stays_said _ (stays_cons (Is.stays _) (stays_cons (Is.stays _) (stays_cons (Is.stays _) (stays_cons (Is.stays _) (stays_cons (Is.stays _) (stays_cons (Is.stays _) (stays_cons (Is.stays _) (stays_cons (Is.stays _) (stays_cons (Is.stays _) (stays_cons (Is.stays _) (stays_cons (Is.stays _) (stays_cons (Is.stays _) (stays_cons (Is.stays _) (stays_cons (Is.stays _) (stays_cons (Is.stays _) (stays_cons (Is.stays _) (stays_cons (Is.stays _) (stays_cons (Is.stays _) (stays_cons (Is.stays _) stays_nil)))))))))))))))))))) (HB.out.next (below_drewN _ _ 1)) (by kernel_rfl) ?_ ?_
          · skip
            refine owes_cons (Owes.mk (o := ({ dst := some 26, op := .load 24 (.tmp 5), type := 24, pos := "more.go:18", after := #[], guard := none } : Oper)) rfl (fun v wk hj hD K hK => ?_)) ?_
            · simp only [n7D, n7E, putAll, Act.put, List.getD_cons_zero, List.setIfInBounds_toArray, List.set_cons_zero, List.set_cons_succ] at hK ⊢
              obtain ⟨q0, q1, q2, q3, q4, _⟩ := hj.box g5 r (by simp)
              go_simp
              exact hK.out _ _ (Below.refl _ _) rfl
            refine owes_cons (Owes.mk (o := ({ dst := some 27, op := .call { callee := .value (.func 18), args := #[.tmp 26], argTypes := #[24] }, type := 3, pos := "more.go:18", after := #[{ on := 0, ground := .data }], guard := none } : Oper)) rfl (fun v wk hj hD K hK => ?_)) ?_
            · have h0 : v 0 = r.v := hD 0 (by decide)
              simp only [n7D, n7E, putAll, Act.put, List.getD_cons_succ, List.getD_cons_zero, List.setIfInBounds_toArray, List.set_cons_zero, List.set_cons_succ, h0] at hK ⊢
              go_simp
              refine (depth_at _ _ r (hj.in_ g5 r (by simp))).mono ?_
              rintro e w2 ⟨rfl, hb⟩
              exact hK.out _ _ hb (show Value.int _ _ = _ by rw [HD.out])
            refine owes_cons (Owes.mk (o := ({ dst := some 28, op := .move (.tmp 8), type := 3, pos := "more.go:18", after := #[], guard := none } : Oper)) rfl (fun v wk hj hD K hK => ?_)) ?_
            · simp only [n7D, n7E, putAll, Act.put, List.getD_cons_succ, List.getD_cons_zero, List.setIfInBounds_toArray, List.set_cons_zero, List.set_cons_succ] at hK ⊢
              go_simp
              exact hK.out _ _ (Below.refl _ _) rfl
            refine owes_cons (Owes.mk (o := ({ dst := some 29, op := .binOp .add 3 (.tmp 28) (.const (.int .i64 1)) 3, type := 3, pos := "more.go:18", after := #[{ on := 2, ground := .data }], guard := none } : Oper)) rfl (fun v wk hj hD K hK => ?_)) ?_
            · have h2 : v 2 = (.int .i64 (n)) := hD 2 (by decide)
              simp only [n7D, n7E, putAll, Act.put, List.getD_cons_succ, List.getD_cons_zero, List.setIfInBounds_toArray, List.set_cons_zero, List.set_cons_succ, h2] at hK ⊢
              have e3 : IntKind.i64.wrap (n + 1) = n + 1 := IntWalk.i64_in _ (by omega)
              go_simp
              exact hK.out _ _ (Below.refl _ _) rfl
            refine owes_cons (Owes.mk (o := ({ dst := some 30, op := .call { callee := .builtin .min, args := #[.tmp 29, .const (.int .i64 13)], argTypes := #[3, 3] }, type := 3, pos := "more.go:18", after := #[{ on := 3, ground := .data }], guard := none } : Oper)) rfl (fun v wk hj hD K hK => ?_)) ?_
            · have h3 : v 3 = (.int .i64 (n + 1)) := hD 3 (by decide)
              simp only [n7D, n7E, putAll, Act.put, List.getD_cons_succ, List.getD_cons_zero, List.setIfInBounds_toArray, List.set_cons_zero, List.set_cons_succ, h3] at hK ⊢
              go_simp
              exact hK.out _ _ (Below.refl _ _) (show Value.int _ _ = _ by rw [Int.min_eq_right (by omega)])
            refine owes_cons (Owes.mk (o := ({ dst := some 31, op := .binOp .neq 3 (.tmp 27) (.tmp 30) 3, type := 4, pos := "more.go:18", after := #[{ on := 1, ground := .data }, { on := 4, ground := .data }], guard := none } : Oper)) rfl (fun v wk hj hD K hK => ?_)) ?_
            · have h1 : v 1 = (.int .i64 (min (n + 1) 13)) := hD 1 (by decide)
              have h4 : v 4 = (.int .i64 (min (n + 1) 13)) := hD 4 (by decide)
              simp only [n7D, n7E, putAll, Act.put, List.getD_cons_succ, List.getD_cons_zero, List.setIfInBounds_toArray, List.set_cons_zero, List.set_cons_succ, h1, h4] at hK ⊢
              go_simp
              exact hK.out _ _ (Below.refl _ _) rfl
            refine owes_cons (Owes.mk (o := ({ dst := some 32, op := .move (.tmp 31), type := 4, pos := "more.go:18", after := #[{ on := 5, ground := .data }, { on := 1, ground := .chain }], guard := none } : Oper)) rfl (fun v wk hj hD K hK => ?_)) ?_
            · have h5 : v 5 = (.bool false) := hD 5 (by decide)
              simp only [n7D, n7E, putAll, Act.put, List.getD_cons_succ, List.getD_cons_zero, List.setIfInBounds_toArray, List.set_cons_zero, List.set_cons_succ, h5] at hK ⊢
              go_simp
              exact hK.out _ _ (Below.refl _ _) rfl
            refine owes_cons (Owes.mk (o := ({ dst := some 33, op := .load 24 (.tmp 5), type := 24, pos := "more.go:18", after := #[{ on := 6, ground := .guard }], guard := some (6, false) } : Oper)) rfl (fun v wk hj hD K hK => ?_)) ?_
            · have h6 : v 6 = (.bool false) := hD 6 (by decide)
              simp only [n7D, n7E, putAll, Act.put, List.getD_cons_succ, List.getD_cons_zero, List.setIfInBounds_toArray, List.set_cons_zero, List.set_cons_succ, h6] at hK ⊢
              obtain ⟨q0, q1, q2, q3, q4, _⟩ := hj.box g5 r (by simp)
              go_simp
              exact hK.out _ _ (Below.refl _ _) rfl
            refine owes_cons (Owes.mk (o := ({ dst := some 34, op := .call { callee := .value (.func 16), args := #[.tmp 33], argTypes := #[24] }, type := 30, pos := "more.go:18", after := #[{ on := 7, ground := .data }, { on := 6, ground := .chain }, { on := 6, ground := .guard }], guard := some (6, false) } : Oper)) rfl (fun v wk hj hD K hK => ?_)) ?_
            · have h6 : v 6 = (.bool false) := hD 6 (by decide)
              have h7 : v 7 = r.v := hD 7 (by decide)
              simp only [n7D, n7E, putAll, Act.put, List.getD_cons_succ, List.getD_cons_zero, List.setIfInBounds_toArray, List.set_cons_zero, List.set_cons_succ, h6, h7] at hK ⊢
              go_simp
              refine (check_at _ _ r (hj.in_ g5 r (by simp))).mono ?_
              rintro e w2 ⟨rfl, hb⟩
              exact hK.out _ _ hb (show Value.int _ _ = _ by rw [HOR.out]; rfl)
            refine owes_cons (Owes.mk (o := ({ dst := some 35, op := .binOp .eql 30 (.tmp 34) (.const (.int .i64 0)) 30, type := 4, pos := "more.go:18", after := #[{ on := 8, ground := .data }, { on := 6, ground := .guard }], guard := some (6, false) } : Oper)) rfl (fun v wk hj hD K hK => ?_)) ?_
            · have h6 : v 6 = (.bool false) := hD 6 (by decide)
              have h8 : v 8 = (.int .i64 (2)) := hD 8 (by decide)
              simp only [n7D, n7E, putAll, Act.put, List.getD_cons_succ, List.getD_cons_zero, List.setIfInBounds_toArray, List.set_cons_zero, List.set_cons_succ, h6, h8] at hK ⊢
              go_simp
              exact hK.out _ _ (Below.refl _ _) rfl
            refine owes_cons (Owes.mk (o := ({ dst := some 36, op := .load 24 (.tmp 2), type := 24, pos := "more.go:18", after := #[{ on := 6, ground := .guard }], guard := some (6, false) } : Oper)) rfl (fun v wk hj hD K hK => ?_)) ?_
            · have h6 : v 6 = (.bool false) := hD 6 (by decide)
              simp only [n7D, n7E, putAll, Act.put, List.getD_cons_succ, List.getD_cons_zero, List.setIfInBounds_toArray, List.set_cons_zero, List.set_cons_succ, h6] at hK ⊢
              obtain ⟨q0, q1, q2, q3, q4, _⟩ := hj.box g1 x (by simp)
              go_simp
              exact hK.out _ _ (Below.refl _ _) rfl
            refine owes_cons (Owes.mk (o := ({ dst := some 37, op := .call { callee := .value (.func 16), args := #[.tmp 36], argTypes := #[24] }, type := 30, pos := "more.go:18", after := #[{ on := 10, ground := .data }, { on := 8, ground := .chain }, { on := 6, ground := .guard }], guard := some (6, false) } : Oper)) rfl (fun v wk hj hD K hK => ?_)) ?_
            · have h6 : v 6 = (.bool false) := hD 6 (by decide)
              have h10 : v 10 = x.v := hD 10 (by decide)
              simp only [n7D, n7E, putAll, Act.put, List.getD_cons_succ, List.getD_cons_zero, List.setIfInBounds_toArray, List.set_cons_zero, List.set_cons_succ, h6, h10] at hK ⊢
              go_simp
              refine (check_at _ _ x (hj.in_ g1 x (by simp))).mono ?_
              rintro e w2 ⟨rfl, hb⟩
              exact hK.out _ _ hb (show Value.int _ _ = _ by rw [HOX.out]; rfl)
            refine owes_cons (Owes.mk (o := ({ dst := some 38, op := .binOp .eql 30 (.tmp 37) (.const (.int .i64 0)) 30, type := 4, pos := "more.go:18", after := #[{ on := 11, ground := .data }, { on := 6, ground := .guard }], guard := some (6, false) } : Oper)) rfl (fun v wk hj hD K hK => ?_)) ?_
            · have h6 : v 6 = (.bool false) := hD 6 (by decide)
              have h11 : v 11 = (.int .i64 (2)) := hD 11 (by decide)
              simp only [n7D, n7E, putAll, Act.put, List.getD_cons_succ, List.getD_cons_zero, List.setIfInBounds_toArray, List.set_cons_zero, List.set_cons_succ, h6, h11] at hK ⊢
              go_simp
              exact hK.out _ _ (Below.refl _ _) rfl
            refine owes_cons (Owes.mk (o := ({ dst := some 39, op := .move (.tmp 38), type := 4, pos := "more.go:18", after := #[{ on := 12, ground := .data }, { on := 11, ground := .chain }, { on := 6, ground := .guard }], guard := some (6, false) } : Oper)) rfl (fun v wk hj hD K hK => ?_)) ?_
            · have h6 : v 6 = (.bool false) := hD 6 (by decide)
              have h12 : v 12 = (.bool false) := hD 12 (by decide)
              simp only [n7D, n7E, putAll, Act.put, List.getD_cons_succ, List.getD_cons_zero, List.setIfInBounds_toArray, List.set_cons_zero, List.set_cons_succ, h6, h12] at hK ⊢
              go_simp
              exact hK.out _ _ (Below.refl _ _) rfl
            refine owes_cons (Owes.mk (o := ({ dst := some 40, op := .move (.tmp 8), type := 3, pos := "more.go:18", after := #[{ on := 13, ground := .guard }], guard := some (13, true) } : Oper)) rfl (fun v wk hj hD K hK => ?_)) ?_
            · have h13 : v 13 = (.bool false) := hD 13 (by decide)
              simp only [n7D, n7E, putAll, Act.put, List.getD_cons_succ, List.getD_cons_zero, List.setIfInBounds_toArray, List.set_cons_zero, List.set_cons_succ, h13] at hK ⊢
              go_simp
              exact hK.out _ _ (Below.refl _ _) rfl
            refine owes_cons (Owes.mk (o := ({ dst := some 41, op := .binOp .lss 3 (.tmp 40) (.const (.int .i64 12)) 3, type := 4, pos := "more.go:18", after := #[{ on := 14, ground := .data }, { on := 13, ground := .guard }], guard := some (13, true) } : Oper)) rfl (fun v wk hj hD K hK => ?_)) ?_
            · have h13 : v 13 = (.bool false) := hD 13 (by decide)
              have h14 : v 14 = undef := hD 14 (by decide)
              simp only [n7D, n7E, putAll, Act.put, List.getD_cons_succ, List.getD_cons_zero, List.setIfInBounds_toArray, List.set_cons_zero, List.set_cons_succ, h13, h14] at hK ⊢
              go_simp
              exact hK.out _ _ (Below.refl _ _) rfl
            refine owes_cons (Owes.mk (o := ({ dst := some 42, op := .pick (.tmp 39) (.tmp 41) (.const (.bool false)), type := 4, pos := "more.go:18", after := #[{ on := 13, ground := .data }, { on := 15, ground := .data }, { on := 6, ground := .guard }], guard := some (6, false) } : Oper)) rfl (fun v wk hj hD K hK => ?_)) ?_
            · have h6 : v 6 = (.bool false) := hD 6 (by decide)
              have h13 : v 13 = (.bool false) := hD 13 (by decide)
              have h15 : v 15 = undef := hD 15 (by decide)
              simp only [n7D, n7E, putAll, Act.put, List.getD_cons_succ, List.getD_cons_zero, List.setIfInBounds_toArray, List.set_cons_zero, List.set_cons_succ, h6, h13, h15] at hK ⊢
              go_simp
              exact hK.out _ _ (Below.refl _ _) rfl
            refine owes_cons (Owes.mk (o := ({ dst := some 43, op := .binOp .neq 4 (.tmp 35) (.tmp 42) 4, type := 4, pos := "more.go:18", after := #[{ on := 9, ground := .data }, { on := 16, ground := .data }, { on := 6, ground := .guard }], guard := some (6, false) } : Oper)) rfl (fun v wk hj hD K hK => ?_)) ?_
            · have h6 : v 6 = (.bool false) := hD 6 (by decide)
              have h9 : v 9 = (.bool false) := hD 9 (by decide)
              have h16 : v 16 = (.bool false) := hD 16 (by decide)
              simp only [n7D, n7E, putAll, Act.put, List.getD_cons_succ, List.getD_cons_zero, List.setIfInBounds_toArray, List.set_cons_zero, List.set_cons_succ, h6, h9, h16] at hK ⊢
              go_simp
              exact hK.out _ _ (Below.refl _ _) rfl
            refine owes_cons (Owes.mk (o := ({ dst := some 44, op := .pick (.tmp 32) (.const (.bool true)) (.tmp 43), type := 4, pos := "more.go:18", after := #[{ on := 6, ground := .data }, { on := 17, ground := .data }], guard := none } : Oper)) rfl (fun v wk hj hD K hK => ?_)) ?_
            · have h6 : v 6 = (.bool false) := hD 6 (by decide)
              have h17 : v 17 = (.bool false) := hD 17 (by decide)
              simp only [n7D, n7E, putAll, Act.put, List.getD_cons_succ, List.getD_cons_zero, List.setIfInBounds_toArray, List.set_cons_zero, List.set_cons_succ, h6, h17] at hK ⊢
              go_simp
              exact hK.out _ _ (Below.refl _ _) rfl
            exact owes_nil
          · intro v wf hj hr
            have hl : v 18 = (.bool false) := hr 18 (by decide)
            simp only [n7D, putAll, Act.put, List.getD_cons_succ, List.getD_cons_zero, List.setIfInBounds_toArray, List.set_cons_zero, List.set_cons_succ, hl]
            clear hl hr
            go_wp2_with fail
            go_meet
            exact ⟨rfl, Lib.hid hj⟩
      · by_cases hlt : n < 12
        · have HOX := Lib.hid hox
          have HOR : Hid (okV 12 r.t = true) := Lib.hid (by rw [HR.out, HOR0.out, HOX.out, HN0.out]; simp; omega)
          clear hox
          go_wp2_with fail
          refine region_phase_all [0, 1, 2, 3, 4, 5, 6, 7, 8, 9, 10, 11, 12, 13, 14, 15, 16, 17, 18] n7D n7E (fun w' => Bxs w w' (d + 14) [(g7, u), (g6, s), (g5, r), (g2, y), (g1, x)]) (saidOf [Is r.v, Is (.int .i64 (min (n + 1) 13)), Is (.int .i64 (n)), Is (.int .i64 (n + 1)), Is (.int .i64 (min (n + 1) 13)), Is (.bool false), Is (.bool false), Is r.v, Is (.int .i64 (0)), Is (.bool true), Is x.v, Is (.int .i64 (0)), Is (.bool true), Is (.bool true), Is (.int .i64 (n)), Is (.bool true), Is (.bool true), Is (.bool false), Is (.bool false)]) 74 rfl (by kernel_rfl) (by kernel_rfl) (by kernel_rfl) (fun _ _ h hb => h.next hb) (stays_said _ (stays_cons (Is.stays _) (stays_cons (Is.stays _) (stays_cons (Is.stays _) (stays_cons (Is.stays _) (stays_cons (Is.stays _) (stays_cons (Is.stays _) (stays_cons (Is.stays _) (stays_cons (Is.stays _) (stays_cons (Is.stays _) (stays_cons (Is.stays _) (stays_cons (Is.stays _) (stays_cons (Is.stays _) (stays_cons (Is.stays _) (stays_cons (Is.stays _) (stays_cons (Is.stays _) (stays_cons (Is.stays _) (stays_cons (Is.stays _) (stays_cons (Is.stays _) (stays_cons (Is.stays _) stays_nil)))))))))))))))))))) (HB.out.next (below_drewN _ _ 1)) (by kernel_rfl) ?_ ?_
          · skip
            refine owes_cons (Owes.mk (o := ({ dst := some 26, op := .load 24 (.tmp 5), type := 24, pos := "more.go:18", after := #[], guard := none } : Oper)) rfl (fun v wk hj hD K hK => ?_)) ?_
            · simp only [n7D, n7E, putAll, Act.put, List.getD_cons_zero, List.setIfInBounds_toArray, List.set_cons_zero, List.set_cons_succ] at hK ⊢
              obtain ⟨q0, q1, q2, q3, q4, _⟩ := hj.box g5 r (by simp)
              go_simp
              exact hK.out _ _ (Below.refl _ _) rfl
            refine owes_cons (Owes.mk (o := ({ dst := some 27, op := .call { callee := .value (.func 18), args := #[.tmp 26], argTypes := #[24] }, type := 3, pos := "more.go:18", after := #[{ on := 0, ground := .data }], guard := none } : Oper)) rfl (fun v wk hj hD K hK => ?_)) ?_
            · have h0 : v 0 = r.v := hD 0 (by decide)
              simp only [n7D, n7E, putAll, Act.put, List.getD_cons_succ, List.getD_cons_zero, List.setIfInBounds_toArray, List.set_cons_zero, List.set_cons_succ, h0] at hK ⊢
              go_simp
              refine (depth_at _ _ r (hj.in_ g5 r (by simp))).mono ?_
              rintro e w2 ⟨rfl, hb⟩
              exact hK.out _ _ hb (show Value.int _ _ = _ by rw [HD.out])
            refine owes_cons (Owes.mk (o := ({ dst := some 28, op := .move (.tmp 8), type := 3, pos := "more.go:18", after := #[], guard := none } : Oper)) rfl (fun v wk hj hD K hK => ?_)) ?_
            · simp only [n7D, n7E, putAll, Act.put, List.getD_cons_succ, List.getD_cons_zero, List.setIfInBounds_toArray, List.set_cons_zero, List.set_cons_succ] at hK ⊢
              go_simp
              exact hK.out _ _ (Below.refl _ _) rfl
            refine owes_cons (Owes.mk (o := ({ dst := some 29, op := .binOp .add 3 (.tmp 28) (.const (.int .i64 1)) 3, type := 3, pos := "more.go:18", after := #[{ on := 2, ground := .data }], guard := none } : Oper)) rfl (fun v wk hj hD K hK => ?_)) ?_
            · have h2 : v 2 = (.int .i64 (n)) := hD 2 (by decide)
              simp only [n7D, n7E, putAll, Act.put, List.getD_cons_succ, List.getD_cons_zero, List.setIfInBounds_toArray, List.set_cons_zero, List.set_cons_succ, h2] at hK ⊢
              have e3 : IntKind.i64.wrap (n + 1) = n + 1 := IntWalk.i64_in _ (by omega)
              go_simp
              exact hK.out _ _ (Below.refl _ _) rfl
            refine owes_cons (Owes.mk (o := ({ dst := some 30, op := .call { callee := .builtin .min, args := #[.tmp 29, .const (.int .i64 13)], argTypes := #[3, 3] }, type := 3, pos := "more.go:18", after := #[{ on := 3, ground := .data }], guard := none } : Oper)) rfl (fun v wk hj hD K hK => ?_)) ?_
            · have h3 : v 3 = (.int .i64 (n + 1)) := hD 3 (by decide)
              simp only [n7D, n7E, putAll, Act.put, List.getD_cons_succ, List.getD_cons_zero, List.setIfInBounds_toArray, List.set_cons_zero, List.set_cons_succ, h3] at hK ⊢
              go_simp
              exact hK.out _ _ (Below.refl _ _) (show Value.int _ _ = _ by rw [Int.min_eq_left (by omega)])
            refine owes_cons (Owes.mk (o := ({ dst := some 31, op := .binOp .neq 3 (.tmp 27) (.tmp 30) 3, type := 4, pos := "more.go:18", after := #[{ on := 1, ground := .data }, { on := 4, ground := .data }], guard := none } : Oper)) rfl (fun v wk hj hD K hK => ?_)) ?_
            · have h1 : v 1 = (.int .i64 (min (n + 1) 13)) := hD 1 (by decide)
              have h4 : v 4 = (.int .i64 (min (n + 1) 13)) := hD 4 (by decide)
              simp only [n7D, n7E, putAll, Act.put, List.getD_cons_succ, List.getD_cons_zero, List.setIfInBounds_toArray, List.set_cons_zero, List.set_cons_succ, h1, h4] at hK ⊢
              go_simp
              exact hK.out _ _ (Below.refl _ _) rfl
            refine owes_cons (Owes.mk (o := ({ dst := some 32, op := .move (.tmp 31), type := 4, pos := "more.go:18", after := #[{ on := 5, ground := .data }, { on := 1, ground := .chain }], guard := none } : Oper)) rfl (fun v wk hj hD K hK => ?_)) ?_
            · have h5 : v 5 = (.bool false) := hD 5 (by decide)
              simp only [n7D, n7E, putAll, Act.put, List.getD_cons_succ, List.getD_cons_zero, List.setIfInBounds_toArray, List.set_cons_zero, List.set_cons_succ, h5] at hK ⊢
              go_simp
              exact hK.out _ _ (Below.refl _ _) rfl
            refine owes_cons (Owes.mk (o := ({ dst := some 33, op := .load 24 (.tmp 5), type := 24, pos := "more.go:18", after := #[{ on := 6, ground := .guard }], guard := some (6, false) } : Oper)) rfl (fun v wk hj hD K hK => ?_)) ?_
            · have h6 : v 6 = (.bool false) := hD 6 (by decide)
              simp only [n7D, n7E, putAll, Act.put, List.getD_cons_succ, List.getD_cons_zero, List.setIfInBounds_toArray, List.set_cons_zero, List.set_cons_succ, h6] at hK ⊢
              obtain ⟨q0, q1, q2, q3, q4, _⟩ := hj.box g5 r (by simp)
              go_simp
              exact hK.out _ _ (Below.refl _ _) rfl
            refine owes_cons (Owes.mk (o := ({ dst := some 34, op := .call { callee := .value (.func 16), args := #[.tmp 33], argTypes := #[24] }, type := 30, pos := "more.go:18", after := #[{ on := 7, ground := .data }, { on := 6, ground := .chain }, { on := 6, ground := .guard }], guard := some (6, false) } : Oper)) rfl (fun v wk hj hD K hK => ?_)) ?_
            · have h6 : v 6 = (.bool false) := hD 6 (by decide)
              have h7 : v 7 = r.v := hD 7 (by decide)
              simp only [n7D, n7E, putAll, Act.put, List.getD_cons_succ, List.getD_cons_zero, List.setIfInBounds_toArray, List.set_cons_zero, List.set_cons_succ, h6, h7] at hK ⊢
              go_simp
              refine (check_at _ _ r (hj.in_ g5 r (by simp))).mono ?_
              rintro e w2 ⟨rfl, hb⟩
              exact hK.out _ _ hb (show Value.int _ _ = _ by rw [HOR.out]; rfl)
            refine owes_cons (Owes.mk (o := ({ dst := some 35, op := .binOp .eql 30 (.tmp 34) (.const (.int .i64 0)) 30, type := 4, pos := "more.go:18", after := #[{ on := 8, ground := .data }, { on := 6, ground := .guard }], guard := some (6, false) } : Oper)) rfl (fun v wk hj hD K hK => ?_)) ?_
            · have h6 : v 6 = (.bool false) := hD 6 (by decide)
              have h8 : v 8 = (.int .i64 (0)) := hD 8 (by decide)
              simp only [n7D, n7E, putAll, Act.put, List.getD_cons_succ, List.getD_cons_zero, List.setIfInBounds_toArray, List.set_cons_zero, List.set_cons_succ, h6, h8] at hK ⊢
              go_simp
              exact hK.out _ _ (Below.refl _ _) rfl
            refine owes_cons (Owes.mk (o := ({ dst := some 36, op := .load 24 (.tmp 2), type := 24, pos := "more.go:18", after := #[{ on := 6, ground := .guard }], guard := some (6, false) } : Oper)) rfl (fun v wk hj hD K hK => ?_)) ?_
            · have h6 : v 6 = (.bool false) := hD 6 (by decide)
              simp only [n7D, n7E, putAll, Act.put, List.getD_cons_succ, List.getD_cons_zero, List.setIfInBounds_toArray, List.set_cons_zero, List.set_cons_succ, h6] at hK ⊢
              obtain ⟨q0, q1, q2, q3, q4, _⟩ := hj.box g1 x (by simp)
              go_simp
              exact hK.out _ _ (Below.refl _ _) rfl
            refine owes_cons (Owes.mk (o := ({ dst := some 37, op := .call { callee := .value (.func 16), args := #[.tmp 36], argTypes := #[24] }, type := 30, pos := "more.go:18", after := #[{ on := 10, ground := .data }, { on := 8, ground := .chain }, { on := 6, ground := .guard }], guard := some (6, false) } : Oper)) rfl (fun v wk hj hD K hK => ?_)) ?_
            · have h6 : v 6 = (.bool false) := hD 6 (by decide)
              have h10 : v 10 = x.v := hD 10 (by decide)
              simp only [n7D, n7E, putAll, Act.put, List.getD_cons_succ, List.getD_cons_zero, List.setIfInBounds_toArray, List.set_cons_zero, List.set_cons_succ, h6, h10] at hK ⊢
              go_simp
              refine (check_at _ _ x (hj.in_ g1 x (by simp))).mono ?_
              rintro e w2 ⟨rfl, hb⟩
              exact hK.out _ _ hb (show Value.int _ _ = _ by rw [HOX.out]; rfl)
            refine owes_cons (Owes.mk (o := ({ dst := some 38, op := .binOp .eql 30 (.tmp 37) (.const (.int .i64 0)) 30, type := 4, pos := "more.go:18", after := #[{ on := 11, ground := .data }, { on := 6, ground := .guard }], guard := some (6, false) } : Oper)) rfl (fun v wk hj hD K hK => ?_)) ?_
            · have h6 : v 6 = (.bool false) := hD 6 (by decide)
              have h11 : v 11 = (.int .i64 (0)) := hD 11 (by decide)
              simp only [n7D, n7E, putAll, Act.put, List.getD_cons_succ, List.getD_cons_zero, List.setIfInBounds_toArray, List.set_cons_zero, List.set_cons_succ, h6, h11] at hK ⊢
              go_simp
              exact hK.out _ _ (Below.refl _ _) rfl
            refine owes_cons (Owes.mk (o := ({ dst := some 39, op := .move (.tmp 38), type := 4, pos := "more.go:18", after := #[{ on := 12, ground := .data }, { on := 11, ground := .chain }, { on := 6, ground := .guard }], guard := some (6, false) } : Oper)) rfl (fun v wk hj hD K hK => ?_)) ?_
            · have h6 : v 6 = (.bool false) := hD 6 (by decide)
              have h12 : v 12 = (.bool true) := hD 12 (by decide)
              simp only [n7D, n7E, putAll, Act.put, List.getD_cons_succ, List.getD_cons_zero, List.setIfInBounds_toArray, List.set_cons_zero, List.set_cons_succ, h6, h12] at hK ⊢
              go_simp
              exact hK.out _ _ (Below.refl _ _) rfl
            refine owes_cons (Owes.mk (o := ({ dst := some 40, op := .move (.tmp 8), type := 3, pos := "more.go:18", after := #[{ on := 13, ground := .guard }], guard := some (13, true) } : Oper)) rfl (fun v wk hj hD K hK => ?_)) ?_
            · have h13 : v 13 = (.bool true) := hD 13 (by decide)
              simp only [n7D, n7E, putAll, Act.put, List.getD_cons_succ, List.getD_cons_zero, List.setIfInBounds_toArray, List.set_cons_zero, List.set_cons_succ, h13] at hK ⊢
              go_simp
              exact hK.out _ _ (Below.refl _ _) rfl
            refine owes_cons (Owes.mk (o := ({ dst := some 41, op := .binOp .lss 3 (.tmp 40) (.const (.int .i64 12)) 3, type := 4, pos := "more.go:18", after := #[{ on := 14, ground := .data }, { on := 13, ground := .guard }], guard := some (13, true) } : Oper)) rfl (fun v wk hj hD K hK => ?_)) ?_
            · have h13 : v 13 = (.bool true) := hD 13 (by decide)
              have h14 : v 14 = (.int .i64 (n)) := hD 14 (by decide)
              simp only [n7D, n7E, putAll, Act.put, List.getD_cons_succ, List.getD_cons_zero, List.setIfInBounds_toArray, List.set_cons_zero, List.set_cons_succ, h13, h14] at hK ⊢
              go_simp
              exact hK.out _ _ (Below.refl _ _) rfl
            refine owes_cons (Owes.mk (o := ({ dst := some 42, op := .pick (.tmp 39) (.tmp 41) (.const (.bool false)), type := 4, pos := "more.go:18", after := #[{ on := 13, ground := .data }, { on := 15, ground := .data }, { on := 6, ground := .guard }], guard := some (6, false) } : Oper)) rfl (fun v wk hj hD K hK => ?_)) ?_
            · have h6 : v 6 = (.bool false) := hD 6 (by decide)
              have h13 : v 13 = (.bool true) := hD 13 (by decide)
              have h15 : v 15 = (.bool true) := hD 15 (by decide)
              simp only [n7D, n7E, putAll, Act.put, List.getD_cons_succ, List.getD_cons_zero, List.setIfInBounds_toArray, List.set_cons_zero, List.set_cons_succ, h6, h13, h15] at hK ⊢
              go_simp
              exact hK.out _ _ (Below.refl _ _) rfl
            refine owes_cons (Owes.mk (o := ({ dst := some 43, op := .binOp .neq 4 (.tmp 35) (.tmp 42) 4, type := 4, pos := "more.go:18", after := #[{ on := 9, ground := .data }, { on := 16, ground := .data }, { on := 6, ground := .guard }], guard := some (6, false) } : Oper)) rfl (fun v wk hj hD K hK => ?_)) ?_
            · have h6 : v 6 = (.bool false) := hD 6 (by decide)
              have h9 : v 9 = (.bool true) := hD 9 (by decide)
              have h16 : v 16 = (.bool true) := hD 16 (by decide)
              simp only [n7D, n7E, putAll, Act.put, List.getD_cons_succ, List.getD_cons_zero, List.setIfInBounds_toArray, List.set_cons_zero, List.set_cons_succ, h6, h9, h16] at hK ⊢
              go_simp
              exact hK.out _ _ (Below.refl _ _) rfl
            refine owes_cons (Owes.mk (o := ({ dst := some 44, op := .pick (.tmp 32) (.const (.bool true)) (.tmp 43), type := 4, pos := "more.go:18", after := #[{ on := 6, ground := .data }, { on := 17, ground := .data }], guard := none } : Oper)) rfl (fun v wk hj hD K hK => ?_)) ?_
            · have h6 : v 6 = (.bool false) := hD 6 (by decide)
              have h17 : v 17 = (.bool false) := hD 17 (by decide)
              simp only [n7D, n7E, putAll, Act.put, List.getD_cons_succ, List.getD_cons_zero, List.setIfInBounds_toArray, List.set_cons_zero, List.set_cons_succ, h6, h17] at hK ⊢
              go_simp
              exact hK.out _ _ (Below.refl _ _) rfl
            exact owes_nil
          · intro v wf hj hr
            have hl : v 18 = (.bool false) := hr 18 (by decide)
            simp only [n7D, putAll, Act.put, List.getD_cons_succ, List.getD_cons_zero, List.setIfInBounds_toArray, List.set_cons_zero, List.set_cons_succ, hl]
            clear hl hr
            go_wp2_with fail
            go_meet
            exact ⟨rfl, Lib.hid hj⟩
        · have HOX := Lib.hid hox
          have HOR : Hid (okV 12 r.t = false) := Lib.hid (by rw [HR.out, HOR0.out, HOX.out, HN0.out]; simp; omega)
          clear hox
          go_wp2_with fail
          refine region_phase_all [0, 1, 2, 3, 4, 5, 6, 7, 8, 9, 10, 11, 12, 13, 14, 15, 16, 17, 18] n7D n7E (fun w' => Bxs w w' (d + 14) [(g7, u), (g6, s), (g5, r), (g2, y), (g1, x)]) (saidOf [Is r.v, Is (.int .i64 (min (n + 1) 13)), Is (.int .i64 (n)), Is (.int .i64 (n + 1)), Is (.int .i64 (min (n + 1) 13)), Is (.bool false), Is (.bool false), Is r.v, Is (.int .i64 (2)), Is (.bool false), Is x.v, Is (.int .i64 (0)), Is (.bool true), Is (.bool true), Is (.int .i64 (n)), Is (.bool false), Is (.bool false), Is (.bool false), Is (.bool false)]) 74 rfl (by kernel_rfl) (by kernel_rfl) (by kernel_rfl) (fun _ _ h hb => h.next hb) (stays_said _ (stays_cons (Is.stays _) (stays_cons (Is.stays _) (stays_cons (Is.stays _) (stays_cons (Is.stays _) (stays_cons (Is.stays _) (stays_cons (Is.stays _) (stays_cons (Is.stays _) (stays_cons (Is.stays _) (stays_cons (Is.stays _) (stays_cons (Is.stays _) (stays_cons (Is.stays _) (stays_cons (Is.stays _) (stays_cons (Is.stays _) (stays_cons (Is.stays _) (stays_cons (Is.stays _) (stays_cons (Is.stays _) (stays_cons (Is.stays _) (stays_cons (Is.stays _) (stays_cons (Is.stays _) stays_nil)))))))))))))))))))) (HB.out.next (below_drewN _ _ 1)) (by kernel_rfl) ?_ ?_
          · skip
            refine owes_cons (Owes.mk (o := ({ dst := some 26, op := .load 24 (.tmp 5), type := 24, pos := "more.go:18", after := #[], guard := none } : Oper)) rfl (fun v wk hj hD K hK => ?_)) ?_
            · simp only [n7D, n7E, putAll, Act.put, List.getD_cons_zero, List.setIfInBounds_toArray, List.set_cons_zero, List.set_cons_succ] at hK ⊢
              obtain ⟨q0, q1, q2, q3, q4, _⟩ := hj.box g5 r (by simp)
              go_simp
              exact hK.out _ _ (Below.refl _ _) rfl
            refine owes_cons (Owes.mk (o := ({ dst := some 27, op := .call { callee := .value (.func 18), args := #[.tmp 26], argTypes := #[24] }, type := 3, pos := "more.go:18", after := #[{ on := 0, ground := .data }], guard := none } : Oper)) rfl (fun v wk hj hD K hK => ?_)) ?_
            · have h0 : v 0 = r.v := hD 0 (by decide)
              simp only [n7D, n7E, putAll, Act.put, List.getD_cons_succ, List.getD_cons_zero, List.setIfInBounds_toArray, List.set_cons_zero, List.set_cons_succ, h0] at hK ⊢
              go_simp
              refine (depth_at _ _ r (hj.in_ g5 r (by simp))).mono ?_
              rintro e w2 ⟨rfl, hb⟩
              exact hK.out _ _ hb (show Value.int _ _ = _ by rw [HD.out])
            refine owes_cons (Owes.mk (o := ({ dst := some 28, op := .move (.tmp 8), type := 3, pos := "more.go:18", after := #[], guard := none } : Oper)) rfl (fun v wk hj hD K hK => ?_)) ?_
            · simp only [n7D, n7E, putAll, Act.put, List.getD_cons_succ, List.getD_cons_zero, List.setIfInBounds_toArray, List.set_cons_zero, List.set_cons_succ] at hK ⊢
              go_simp
              exact hK.out _ _ (Below.refl _ _) rfl
            refine owes_cons (Owes.mk (o := ({ dst := some 29, op := .binOp .add 3 (.tmp 28) (.const (.int .i64 1)) 3, type := 3, pos := "more.go:18", after := #[{ on := 2, ground := .data }], guard := none } : Oper)) rfl (fun v wk hj hD K hK => ?_)) ?_
            · have h2 : v 2 = (.int .i64 (n)) := hD 2 (by decide)
              simp only [n7D, n7E, putAll, Act.put, List.getD_cons_succ, List.getD_cons_zero, List.setIfInBounds_toArray, List.set_cons_zero, List.set_cons_succ, h2] at hK ⊢
              have e3 : IntKind.i64.wrap (n + 1) = n + 1 := IntWalk.i64_in _ (by omega)
              go_simp
              exact hK.out _ _ (Below.refl _ _) rfl
            refine owes_cons (Owes.mk (o := ({ dst := some 30, op := .call { callee := .builtin .min, args := #[.tmp 29, .const (.int .i64 13)], argTypes := #[3, 3] }, type := 3, pos := "more.go:18", after := #[{ on := 3, ground := .data }], guard := none } : Oper)) rfl (fun v wk hj hD K hK => ?_)) ?_
            · have h3 : v 3 = (.int .i64 (n + 1)) := hD 3 (by decide)
              simp only [n7D, n7E, putAll, Act.put, List.getD_cons_succ, List.getD_cons_zero, List.setIfInBounds_toArray, List.set_cons_zero, List.set_cons_succ, h3] at hK ⊢
              go_simp
              exact hK.out _ _ (Below.refl _ _) (show Value.int _ _ = _ by rw [Int.min_eq_right (by omega)])
            refine owes_cons (Owes.mk (o := ({ dst := some 31, op := .binOp .neq 3 (.tmp 27) (.tmp 30) 3, type := 4, pos := "more.go:18", after := #[{ on := 1, ground := .data }, { on := 4, ground := .data }], guard := none } : Oper)) rfl (fun v wk hj hD K hK => ?_)) ?_
            · have h1 : v 1 = (.int .i64 (min (n + 1) 13)) := hD 1 (by decide)
              have h4 : v 4 = (.int .i64 (min (n + 1) 13)) := hD 4 (by decide)
              simp only [n7D, n7E, putAll, Act.put, List.getD_cons_succ, List.getD_cons_zero, List.setIfInBounds_toArray, List.set_cons_zero, List.set_cons_succ, h1, h4] at hK ⊢
              go_simp
              exact hK.out _ _ (Below.refl _ _) rfl
            refine owes_cons (Owes.mk (o := ({ dst := some 32, op := .move (.tmp 31), type := 4, pos := "more.go:18", after := #[{ on := 5, ground := .data }, { on := 1, ground := .chain }], guard := none } : Oper)) rfl (fun v wk hj hD K hK => ?_)) ?_
            · have h5 : v 5 = (.bool false) := hD 5 (by decide)
              simp only [n7D, n7E, putAll, Act.put, List.getD_cons_succ, List.getD_cons_zero, List.setIfInBounds_toArray, List.set_cons_zero, List.set_cons_succ, h5] at hK ⊢
              go_simp
              exact hK.out _ _ (Below.refl _ _) rfl
            refine owes_cons (Owes.mk (o := ({ dst := some 33, op := .load 24 (.tmp 5), type := 24, pos := "more.go:18", after := #[{ on := 6, ground := .guard }], guard := some (6, false) } : Oper)) rfl (fun v wk hj hD K hK => ?_)) ?_
            · have h6 : v 6 = (.bool false) := hD 6 (by decide)
              simp only [n7D, n7E, putAll, Act.put, List.getD_cons_succ, List.getD_cons_zero, List.setIfInBounds_toArray, List.set_cons_zero, List.set_cons_succ, h6] at hK ⊢
              obtain ⟨q0, q1, q2, q3, q4, _⟩ := hj.box g5 r (by simp)
              go_simp
              exact hK.out _ _ (Below.refl _ _) rfl
            refine owes_cons (Owes.mk (o := ({ dst := some 34, op := .call { callee := .value (.func 16), args := #[.tmp 33], argTypes := #[24] }, type := 30, pos := "more.go:18", after := #[{ on := 7, ground := .data }, { on := 6, ground := .chain }, { on := 6, ground := .guard }], guard := some (6, false) } : Oper)) rfl (fun v wk hj hD K hK => ?_)) ?_
            · have h6 : v 6 = (.bool false) := hD 6 (by decide)
              have h7 : v 7 = r.v := hD 7 (by decide)
              simp only [n7D, n7E, putAll, Act.put, List.getD_cons_succ, List.getD_cons_zero, List.setIfInBounds_toArray, List.set_cons_zero, List.set_cons_succ, h6, h7] at hK ⊢
              go_simp
              refine (check_at _ _ r (hj.in_ g5 r (by simp))).mono ?_
              rintro e w2 ⟨rfl, hb⟩
              exact hK.out _ _ hb (show Value.int _ _ = _ by rw [HOR.out]; rfl)
            refine owes_cons (Owes.mk (o := ({ dst := some 35, op := .binOp .eql 30 (.tmp 34) (.const (.int .i64 0)) 30, type := 4, pos := "more.go:18", after := #[{ on := 8, ground := .data }, { on := 6, ground := .guard }], guard := some (6, false) } : Oper)) rfl (fun v wk hj hD K hK => ?_)) ?_
            · have h6 : v 6 = (.bool false) := hD 6 (by decide)
              have h8 : v 8 = (.int .i64 (2)) := hD 8 (by decide)
              simp only [n7D, n7E, putAll, Act.put, List.getD_cons_succ, List.getD_cons_zero, List.setIfInBounds_toArray, List.set_cons_zero, List.set_cons_succ, h6, h8] at hK ⊢
              go_simp
              exact hK.out _ _ (Below.refl _ _) rfl
            refine owes_cons (Owes.mk (o := ({ dst := some 36, op := .load 24 (.tmp 2), type := 24, pos := "more.go:18", after := #[{ on := 6, ground := .guard }], guard := some (6, false) } : Oper)) rfl (fun v wk hj hD K hK => ?_)) ?_
            · have h6 : v 6 = (.bool false) := hD 6 (by decide)
              simp only [n7D, n7E, putAll, Act.put, List.getD_cons_succ, List.getD_cons_zero, List.setIfInBounds_toArray, List.set_cons_zero, List.set_cons_succ, h6] at hK ⊢
              obtain ⟨q0, q1, q2, q3, q4, _⟩ := hj.box g1 x (by simp)
              go_simp
              exact hK.out _ _ (Below.refl _ _) rfl
            refine owes_cons (Owes.mk (o := ({ dst := some 37, op := .call { callee := .value (.func 16), args := #[.tmp 36], argTypes := #[24] }, type := 30, pos := "more.go:18", after := #[{ on := 10, ground := .data }, { on := 8, ground := .chain }, { on := 6, ground := .guard }], guard := some (6, false) } : Oper)) rfl (fun v wk hj hD K hK => ?_)) ?_
            · have h6 : v 6 = (.bool false) := hD 6 (by decide)
              have h10 : v 10 = x.v := hD 10 (by decide)
              simp only [n7D, n7E, putAll, Act.put, List.getD_cons_succ, List.getD_cons_zero, List.setIfInBounds_toArray, List.set_cons_zero, List.set_cons_succ, h6, h10] at hK ⊢
              go_simp
              refine (check_at _ _ x (hj.in_ g1 x (by simp))).mono ?_
              rintro e w2 ⟨rfl, hb⟩
              exact hK.out _ _ hb (show Value.int _ _ = _ by rw [HOX.out]; rfl)
            refine owes_cons (Owes.mk (o := ({ dst := some 38, op := .binOp .eql 30 (.tmp 37) (.const (.int .i64 0)) 30, type := 4, pos := "more.go:18", after := #[{ on := 11, ground := .data }, { on := 6, ground := .guard }], guard := some (6, false) } : Oper)) rfl (fun v wk hj hD K hK => ?_)) ?_
            · have h6 : v 6 = (.bool false) := hD 6 (by decide)
              have h11 : v 11 = (.int .i64 (0)) := hD 11 (by decide)
              simp only [n7D, n7E, putAll, Act.put, List.getD_cons_succ, List.getD_cons_zero, List.setIfInBounds_toArray, List.set_cons_zero, List.set_cons_succ, h6, h11] at hK ⊢
              go_simp
              exact hK.out _ _ (Below.refl _ _) rfl
            refine owes_cons (Owes.mk (o := ({ dst := some 39, op := .move (.tmp 38), type := 4, pos := "more.go:18", after := #[{ on := 12, ground := .data }, { on := 11, ground := .chain }, { on := 6, ground := .guard }], guard := some (6, false) } : Oper)) rfl (fun v wk hj hD K hK => ?_)) ?_
            · have h6 : v 6 = (.bool false) := hD 6 (by decide)
              have h12 : v 12 = (.bool true) := hD 12 (by decide)
              simp only [n7D, n7E, putAll, Act.put, List.getD_cons_succ, List.getD_cons_zero, List.setIfInBounds_toArray, List.set_cons_zero, List.set_cons_succ, h6, h12] at hK ⊢
              go_simp
              exact hK.out _ _ (Below.refl _ _) rfl
            refine owes_cons (Owes.mk (o := ({ dst := some 40, op := .move (.tmp 8), type := 3, pos := "more.go:18", after := #[{ on := 13, ground := .guard }], guard := some (13, true) } : Oper)) rfl (fun v wk hj hD K hK => ?_)) ?_
            · have h13 : v 13 = (.bool true) := hD 13 (by decide)
              simp only [n7D, n7E, putAll, Act.put, List.getD_cons_succ, List.getD_cons_zero, List.setIfInBounds_toArray, List.set_cons_zero, List.set_cons_succ, h13] at hK ⊢
              go_simp
              exact hK.out _ _ (Below.refl _ _) rfl
            refine owes_cons (Owes.mk (o := ({ dst := some 41, op := .binOp .lss 3 (.tmp 40) (.const (.int .i64 12)) 3, type := 4, pos := "more.go:18", after := #[{ on := 14, ground := .data }, { on := 13, ground := .guard }], guard := some (13, true) } : Oper)) rfl (fun v wk hj hD K hK => ?_)) ?_
            · have h13 : v 13 = (.bool true) := hD 13 (by decide)
              have h14 : v 14 = (.int .i64 (n)) := hD 14 (by decide)
              simp only [n7D, n7E, putAll, Act.put, List.getD_cons_succ, List.getD_cons_zero, List.setIfInBounds_toArray, List.set_cons_zero, List.set_cons_succ, h13, h14] at hK ⊢
              go_simp
              exact hK.out _ _ (Below.refl _ _) (show Value.bool _ = _ by rw [decide_eq_false (by omega)])
            refine owes_cons (Owes.mk (o := ({ dst := some 42, op := .pick (.tmp 39) (.tmp 41) (.const (.bool false)), type := 4, pos := "more.go:18", after := #[{ on := 13, ground := .data }, { on := 15, ground := .data }, { on := 6, ground := .guard }], guard := some (6, false) } : Oper)) rfl (fun v wk hj hD K hK => ?_)) ?_
            · have h6 : v 6 = (.bool false) := hD 6 (by decide)
              have h13 : v 13 = (.bool true) := hD 13 (by decide)
              have h15 : v 15 = (.bool false) := hD 15 (by decide)
              simp only [n7D, n7E, putAll, Act.put, List.getD_cons_succ, List.getD_cons_zero, List.setIfInBounds_toArray, List.set_cons_zero, List.set_cons_succ, h6, h13, h15] at hK ⊢
              go_simp
              exact hK.out _ _ (Below.refl _ _) rfl
            refine owes_cons (Owes.mk (o := ({ dst := some 43, op := .binOp .neq 4 (.tmp 35) (.tmp 42) 4, type := 4, pos := "more.go:18", after := #[{ on := 9, ground := .data }, { on := 16, ground := .data }, { on := 6, ground := .guard }], guard := some (6, false) } : Oper)) rfl (fun v wk hj hD K hK => ?_)) ?_
            · have h6 : v 6 = (.bool false) := hD 6 (by decide)
              have h9 : v 9 = (.bool false) := hD 9 (by decide)
              have h16 : v 16 = (.bool false) := hD 16 (by decide)
              simp only [n7D, n7E, putAll, Act.put, List.getD_cons_succ, List.getD_cons_zero, List.setIfInBounds_toArray, List.set_cons_zero, List.set_cons_succ, h6, h9, h16] at hK ⊢
              go_simp
              exact hK.out _ _ (Below.refl _ _) rfl
            refine owes_cons (Owes.mk (o := ({ dst := some 44, op := .pick (.tmp 32) (.const (.bool true)) (.tmp 43), type := 4, pos := "more.go:18", after := #[{ on := 6, ground := .data }, { on := 17, ground := .data }], guard := none } : Oper)) rfl (fun v wk hj hD K hK => ?_)) ?_
            · have h6 : v 6 = (.bool false) := hD 6 (by decide)
              have h17 : v 17 = (.bool false) := hD 17 (by decide)
              simp only [n7D, n7E, putAll, Act.put, List.getD_cons_succ, List.getD_cons_zero, List.setIfInBounds_toArray, List.set_cons_zero, List.set_cons_succ, h6, h17] at hK ⊢
              go_simp
              exact hK.out _ _ (Below.refl _ _) rfl
            exact owes_nil
          · intro v wf hj hr
            have hl : v 18 = (.bool false) := hr 18 (by decide)
            simp only [n7D, putAll, Act.put, List.getD_cons_succ, List.getD_cons_zero, List.setIfInBounds_toArray, List.set_cons_zero, List.set_cons_succ, hl]
            clear hl hr
            go_wp2_with fail
            go_meet
            exact ⟨rfl, Lib.hid hj⟩
    case rest =>
      obtain ⟨rfl, HB⟩ := hcut
      clear HD HOR0 HD0
      have hm1 := depV_le 12 y.t
      generalize hmm : (depV 12 y.t : Int) = m at hm1
      have HM := Lib.hid hmm
      have m0 : 0 ≤ m := by omega
      generalize hcc : cmpV 12 x.t y.t = cxy
      have HXY := Lib.hid hcc
      have HRS : Hid (n < 12 → m < 12 → cmpV 12 r.t s.t = cxy) := Lib.hid (fun h1 h2 => by rw [HR.out, HS.out, ← HXY.out]; exact HXY0.out (by have := HNN.out; omega) (by have := HM.out; omega))
      have HRU : Hid (cmpV 12 r.t u.t = -1) := Lib.hid (by rw [HR.out, HU.out]; exact cmp_row_more x.t y.t)
      clear hmm hcc hm1 HXY0 HN0
      go_upto_region 9 with fail
      go_cut [60] (fun s60 wx => s60 = .bool false ∧ Hid (Bxs w wx (d + 14) [(g7, u), (g6, s), (g5, r), (g2, y), (g1, x)]))
      case first =>
        by_cases hlt : n < 12
        · by_cases hmt : m < 12
          · go_wp2_with fail
            refine region_phase_all [0, 1, 2, 3, 4, 5, 6, 7, 8, 9, 10, 11, 12, 13, 14, 15] n9D n9E (fun w' => Bxs w w' (d + 14) [(g7, u), (g6, s), (g5, r), (g2, y), (g1, x)]) (saidOf [Is (.int .i64 (n)), Is (.bool true), Is (.bool true), Is y.v, Is (.int .i64 (m)), Is (.bool true), Is (.bool true), Is (.bool true), Is r.v, Is s.v, Is (.int .i64 (cxy)), Is x.v, Is y.v, Is (.int .i64 (cxy)), Is (.bool false), Is (.bool false)]) 74 rfl (by kernel_rfl) (by kernel_rfl) (by kernel_rfl) (fun _ _ h hb => h.next hb) (stays_said _ (stays_cons (Is.stays _) (stays_cons (Is.stays _) (stays_cons (Is.stays _) (stays_cons (Is.stays _) (stays_cons (Is.stays _) (stays_cons (Is.stays _) (stays_cons (Is.stays _) (stays_cons (Is.stays _) (stays_cons (Is.stays _) (stays_cons (Is.stays _) (stays_cons (Is.stays _) (stays_cons (Is.stays _) (stays_cons (Is.stays _) (stays_cons (Is.stays _) (stays_cons (Is.stays _) (stays_cons (Is.stays _) stays_nil))))))))))))))))) (HB.out.next (below_drewN _ _ 1)) (by kernel_rfl) ?_ ?_
            · skip
              refine owes_cons (Owes.mk (o := ({ dst := some 45, op := .move (.tmp 8), type := 3, pos := "more.go:21", after := #[], guard := none } : Oper)) rfl (fun v wk hj hD K hK => ?_)) ?_
              · simp only [n9D, n9E, putAll, Act.put, List.getD_cons_zero, List.setIfInBounds_toArray, List.set_cons_zero, List.set_cons_succ] at hK ⊢
                go_simp
                exact hK.out _ _ (Below.refl _ _) rfl
              refine owes_cons (Owes.mk (o := ({ dst := some 46, op := .binOp .lss 3 (.tmp 45) (.const (.int .i64 12)) 3, type := 4, pos := "more.go:21", after := #[{ on := 0, ground := .data }], guard := none } : Oper)) rfl (fun v wk hj hD K hK => ?_)) ?_
              · have h0 : v 0 = (.int .i64 (n)) := hD 0 (by decide)
                simp only [n9D, n9E, putAll, Act.put, List.getD_cons_succ, List.getD_cons_zero, List.setIfInBounds_toArray, List.set_cons_zero, List.set_cons_succ, h0] at hK ⊢
                go_simp
                exact hK.out _ _ (Below.refl _ _) rfl
              refine owes_cons (Owes.mk (o := ({ dst := some 47, op := .move (.tmp 46), type := 4, pos := "more.go:21", after := #[{ on := 1, ground := .data }], guard := none } : Oper)) rfl (fun v wk hj hD K hK => ?_)) ?_
              · have h1 : v 1 = (.bool true) := hD 1 (by decide)
                simp only [n9D, n9E, putAll, Act.put, List.getD_cons_succ, List.getD_cons_zero, List.setIfInBounds_toArray, List.set_cons_zero, List.set_cons_succ, h1] at hK ⊢
                go_simp
                exact hK.out _ _ (Below.refl _ _) rfl
              refine owes_cons (Owes.mk (o := ({ dst := some 48, op := .load 24 (.tmp 3), type := 24, pos := "more.go:21", after := #[{ on := 2, ground := .guard }], guard := some (2, true) } : Oper)) rfl (fun v wk hj hD K hK => ?_)) ?_
              · have h2 : v 2 = (.bool true) := hD 2 (by decide)
                simp only [n9D, n9E, putAll, Act.put, List.getD_cons_succ, List.getD_cons_zero, List.setIfInBounds_toArray, List.set_cons_zero, List.set_cons_succ, h2] at hK ⊢
                obtain ⟨q0, q1, q2, q3, q4, _⟩ := hj.box g2 y (by simp)
                go_simp
                exact hK.out _ _ (Below.refl _ _) rfl
              refine owes_cons (Owes.mk (o := ({ dst := some 49, op := .call { callee := .value (.func 19), args := #[.tmp 48], argTypes := #[24] }, type := 3, pos := "more.go:21", after := #[{ on := 3, ground := .data }, { on := 2, ground := .chain }, { on := 2, ground := .guard }], guard := some (2, true) } : Oper)) rfl (fun v wk hj hD K hK => ?_)) ?_
              · have h2 : v 2 = (.bool true) := hD 2 (by decide)
                have h3 : v 3 = y.v := hD 3 (by decide)
                simp only [n9D, n9E, putAll, Act.put, List.getD_cons_succ, List.getD_cons_zero, List.setIfInBounds_toArray, List.set_cons_zero, List.set_cons_succ, h2, h3] at hK ⊢
                go_simp
                refine (refDepth_at _ _ y (hj.in_ g2 y (by simp))).mono ?_
                rintro e w2 ⟨rfl, hb⟩
                exact hK.out _ _ hb (show Value.int _ _ = _ by rw [HM.out])
              refine owes_cons (Owes.mk (o := ({ dst := some 50, op := .binOp .lss 3 (.tmp 49) (.const (.int .i64 12)) 3, type := 4, pos := "more.go:21", after := #[{ on := 4, ground := .data }, { on := 2, ground := .guard }], guard := some (2, true) } : Oper)) rfl (fun v wk hj hD K hK => ?_)) ?_
              · have h2 : v 2 = (.bool true) := hD 2 (by decide)
                have h4 : v 4 = (.int .i64 (m)) := hD 4 (by decide)
                simp only [n9D, n9E, putAll, Act.put, List.getD_cons_succ, List.getD_cons_zero, List.setIfInBounds_toArray, List.set_cons_zero, List.set_cons_succ, h2, h4] at hK ⊢
                go_simp
                exact hK.out _ _ (Below.refl _ _) rfl
              refine owes_cons (Owes.mk (o := ({ dst := some 51, op := .pick (.tmp 47) (.tmp 50) (.const (.bool false)), type := 4, pos := "more.go:21", after := #[{ on := 2, ground := .data }, { on := 5, ground := .data }], guard := none } : Oper)) rfl (fun v wk hj hD K hK => ?_)) ?_
              · have h2 : v 2 = (.bool true) := hD 2 (by decide)
                have h5 : v 5 = (.bool true) := hD 5 (by decide)
                simp only [n9D, n9E, putAll, Act.put, List.getD_cons_succ, List.getD_cons_zero, List.setIfInBounds_toArray, List.set_cons_zero, List.set_cons_succ, h2, h5] at hK ⊢
                go_simp
                exact hK.out _ _ (Below.refl _ _) rfl
              refine owes_cons (Owes.mk (o := ({ dst := some 52, op := .move (.tmp 51), type := 4, pos := "more.go:21", after := #[{ on := 6, ground := .data }, { on := 4, ground := .chain }], guard := none } : Oper)) rfl (fun v wk hj hD K hK => ?_)) ?_
              · have h6 : v 6 = (.bool true) := hD 6 (by decide)
                simp only [n9D, n9E, putAll, Act.put, List.getD_cons_succ, List.getD_cons_zero, List.setIfInBounds_toArray, List.set_cons_zero, List.set_cons_succ, h6] at hK ⊢
                go_simp
                exact hK.out _ _ (Below.refl _ _) rfl
              refine owes_cons (Owes.mk (o := ({ dst := some 53, op := .load 24 (.tmp 5), type := 24, pos := "more.go:21", after := #[{ on := 7, ground := .guard }], guard := some (7, true) } : Oper)) rfl (fun v wk hj hD K hK => ?_)) ?_
              · have h7 : v 7 = (.bool true) := hD 7 (by decide)
                simp only [n9D, n9E, putAll, Act.put, List.getD_cons_succ, List.getD_cons_zero, List.setIfInBounds_toArray, List.set_cons_zero, List.set_cons_succ, h7] at hK ⊢
                obtain ⟨q0, q1, q2, q3, q4, _⟩ := hj.box g5 r (by simp)
                go_simp
                exact hK.out _ _ (Below.refl _ _) rfl
              refine owes_cons (Owes.mk (o := ({ dst := some 54, op := .load 24 (.tmp 6), type := 24, pos := "more.go:21", after := #[{ on := 7, ground := .guard }], guard := some (7, true) } : Oper)) rfl (fun v wk hj hD K hK => ?_)) ?_
              · have h7 : v 7 = (.bool true) := hD 7 (by decide)
                simp only [n9D, n9E, putAll, Act.put, List.getD_cons_succ, List.getD_cons_zero, List.setIfInBounds_toArray, List.set_cons_zero, List.set_cons_succ, h7] at hK ⊢
                obtain ⟨q0, q1, q2, q3, q4, _⟩ := hj.box g6 s (by simp)
                go_simp
                exact hK.out _ _ (Below.refl _ _) rfl
              refine owes_cons (Owes.mk (o := ({ dst := some 55, op := .call { callee := .value (.func 12), args := #[.tmp 53, .tmp 54], argTypes := #[24, 24] }, type := 3, pos := "more.go:21", after := #[{ on := 8, ground := .data }, { on := 9, ground := .data }, { on := 7, ground := .chain }, { on := 7, ground := .guard }], guard := some (7, true) } : Oper)) rfl (fun v wk hj hD K hK => ?_)) ?_
              · have h7 : v 7 = (.bool true) := hD 7 (by decide)
                have h8 : v 8 = r.v := hD 8 (by decide)
                have h9 : v 9 = s.v := hD 9 (by decide)
                simp only [n9D, n9E, putAll, Act.put, List.getD_cons_succ, List.getD_cons_zero, List.setIfInBounds_toArray, List.set_cons_zero, List.set_cons_succ, h7, h8, h9] at hK ⊢
                go_simp
                refine (cmp_at _ _ r s (hj.in_ g5 r (by simp)) (hj.in_ g6 s (by simp))).mono ?_
                rintro e w2 ⟨rfl, hb⟩
                exact hK.out _ _ hb (show Value.int _ _ = _ by rw [HRS.out hlt hmt])
              refine owes_cons (Owes.mk (o := ({ dst := some 56, op := .load 24 (.tmp 2), type := 24, pos := "more.go:21", after := #[{ on := 7, ground := .guard }], guard := some (7, true) } : Oper)) rfl (fun v wk hj hD K hK => ?_)) ?_
              · have h7 : v 7 = (.bool true) := hD 7 (by decide)
                simp only [n9D, n9E, putAll, Act.put, List.getD_cons_succ, List.getD_cons_zero, List.setIfInBounds_toArray, List.set_cons_zero, List.set_cons_succ, h7] at hK ⊢
                obtain ⟨q0, q1, q2, q3, q4, _⟩ := hj.box g1 x (by simp)
                go_simp
                exact hK.out _ _ (Below.refl _ _) rfl
              refine owes_cons (Owes.mk (o := ({ dst := some 57, op := .load 24 (.tmp 3), type := 24, pos := "more.go:21", after := #[{ on := 7, ground := .guard }], guard := some (7, true) } : Oper)) rfl (fun v wk hj hD K hK => ?_)) ?_
              · have h7 : v 7 = (.bool true) := hD 7 (by decide)
                simp only [n9D, n9E, putAll, Act.put, List.getD_cons_succ, List.getD_cons_zero, List.setIfInBounds_toArray, List.set_cons_zero, List.set_cons_succ, h7] at hK ⊢
                obtain ⟨q0, q1, q2, q3, q4, _⟩ := hj.box g2 y (by simp)
                go_simp
                exact hK.out _ _ (Below.refl _ _) rfl
              refine owes_cons (Owes.mk (o := ({ dst := some 58, op := .call { callee := .value (.func 12), args := #[.tmp 56, .tmp 57], argTypes := #[24, 24] }, type := 3, pos := "more.go:21", after := #[{ on := 11, ground := .data }, { on := 12, ground := .data }, { on := 10, ground := .chain }, { on := 7, ground := .guard }], guard := some (7, true) } : Oper)) rfl (fun v wk hj hD K hK => ?_)) ?_
              · have h7 : v 7 = (.bool true) := hD 7 (by decide)
                have h11 : v 11 = x.v := hD 11 (by decide)
                have h12 : v 12 = y.v := hD 12 (by decide)
                simp only [n9D, n9E, putAll, Act.put, List.getD_cons_succ, List.getD_cons_zero, List.setIfInBounds_toArray, List.set_cons_zero, List.set_cons_succ, h7, h11, h12] at hK ⊢
                go_simp
                refine (cmp_at _ _ x y (hj.in_ g1 x (by simp)) (hj.in_ g2 y (by simp))).mono ?_
                rintro e w2 ⟨rfl, hb⟩
                exact hK.out _ _ hb (show Value.int _ _ = _ by rw [HXY.out])
              refine owes_cons (Owes.mk (o := ({ dst := some 59, op := .binOp .neq 3 (.tmp 55) (.tmp 58) 3, type := 4, pos := "more.go:21", after := #[{ on := 10, ground := .data }, { on := 13, ground := .data }, { on := 7, ground := .guard }], guard := some (7, true) } : Oper)) rfl (fun v wk hj hD K hK => ?_)) ?_
              · have h7 : v 7 = (.bool true) := hD 7 (by decide)
                have h10 : v 10 = (.int .i64 (cxy)) := hD 10 (by decide)
                have h13 : v 13 = (.int .i64 (cxy)) := hD 13 (by decide)
                simp only [n9D, n9E, putAll, Act.put, List.getD_cons_succ, List.getD_cons_zero, List.setIfInBounds_toArray, List.set_cons_zero, List.set_cons_succ, h7, h10, h13] at hK ⊢
                go_simp
                exact hK.out _ _ (Below.refl _ _) rfl
              refine owes_cons (Owes.mk (o := ({ dst := some 60, op := .pick (.tmp 52) (.tmp 59) (.const (.bool false)), type := 4, pos := "more.go:21", after := #[{ on := 7, ground := .data }, { on := 14, ground := .data }], guard := none } : Oper)) rfl (fun v wk hj hD K hK => ?_)) ?_
              · have h7 : v 7 = (.bool true) := hD 7 (by decide)
                have h14 : v 14 = (.bool false) := hD 14 (by decide)
                simp only [n9D, n9E, putAll, Act.put, List.getD_cons_succ, List.getD_cons_zero, List.setIfInBounds_toArray, List.set_cons_zero, List.set_cons_succ, h7, h14] at hK ⊢
                go_simp
                exact hK.out _ _ (Below.refl _ _) rfl
              exact owes_nil
            · intro v wf hj hr
              have hl : v 15 = (.bool false) := hr 15 (by decide)
              simp only [n9D, putAll, Act.put, List.getD_cons_succ, List.getD_cons_zero, List.setIfInBounds_toArray, List.set_cons_zero, List.set_cons_succ, hl]
              clear hl hr
              go_wp2_with fail
              go_meet
              exact ⟨rfl, Lib.hid hj⟩
          · go_wp2_with fail
            refine region_phase_all [0, 1, 2, 3, 4, 5, 6, 7, 8, 9, 10, 11, 12, 13, 14, 15] n9D n9E (fun w' => Bxs w w' (d + 14) [(g7, u), (g6, s), (g5, r), (g2, y), (g1, x)]) (saidOf [Is (.int .i64 (n)), Is (.bool true), Is (.bool true), Is y.v, Is (.int .i64 (m)), Is (.bool false), Is (.bool false), Is (.bool false), Is undef, Is undef, Is undef, Is undef, Is undef, Is undef, Is undef, Is (.bool false)]) 74 rfl (by kernel_rfl) (by kernel_rfl) (by kernel_rfl) (fun _ _ h hb => h.next hb) (stays_said _ (stays_cons (Is.stays _) (stays_cons (Is.stays _) (stays_cons (Is.stays _) (stays_cons (Is.stays _) (stays_cons (Is.stays _) (stays_cons (Is.stays _) (stays_cons (Is.stays _) (stays_cons (Is.stays _) (stays_cons (Is.stays _) (stays_cons (Is.stays _) (stays_cons (Is.stays _) (stays_cons (Is.stays _) (stays_cons (Is.stays _) (stays_cons (Is.stays _) (stays_cons (Is.stays _) (stays_cons (Is.stays _) stays_nil))))))))))))))))) (HB.out.next (below_drewN _ _ 1)) (by kernel_rfl) ?_ ?_
            · skip
              refine owes_cons (Owes.mk (o := ({ dst := some 45, op := .move (.tmp 8), type := 3, pos := "more.go:21", after := #[], guard := none } : Oper)) rfl (fun v wk hj hD K hK => ?_)) ?_
              · simp only [n9D, n9E, putAll, Act.put, List.getD_cons_zero, List.setIfInBounds_toArray, List.set_cons_zero, List.set_cons_succ] at hK ⊢
                go_simp
                exact hK.out _ _ (Below.refl _ _) rfl
              refine owes_cons (Owes.mk (o := ({ dst := some 46, op := .binOp .lss 3 (.tmp 45) (.const (.int .i64 12)) 3, type := 4, pos := "more.go:21", after := #[{ on := 0, ground := .data }], guard := none } : Oper)) rfl (fun v wk hj hD K hK => ?_)) ?_
              · have h0 : v 0 = (.int .i64 (n)) := hD 0 (by decide)
                simp only [n9D, n9E, putAll, Act.put, List.getD_cons_succ, List.getD_cons_zero, List.setIfInBounds_toArray, List.set_cons_zero, List.set_cons_succ, h0] at hK ⊢
                go_simp
                exact hK.out _ _ (Below.refl _ _) rfl
              refine owes_cons (Owes.mk (o := ({ dst := some 47, op := .move (.tmp 46), type := 4, pos := "more.go:21", after := #[{ on := 1, ground := .data }], guard := none } : Oper)) rfl (fun v wk hj hD K hK => ?_)) ?_
              · have h1 : v 1 = (.bool true) := hD 1 (by decide)
                simp only [n9D, n9E, putAll, Act.put, List.getD_cons_succ, List.getD_cons_zero, List.setIfInBounds_toArray, List.set_cons_zero, List.set_cons_succ, h1] at hK ⊢
                go_simp
                exact hK.out _ _ (Below.refl _ _) rfl
              refine owes_cons (Owes.mk (o := ({ dst := some 48, op := .load 24 (.tmp 3), type := 24, pos := "more.go:21", after := #[{ on := 2, ground := .guard }], guard := some (2, true) } : Oper)) rfl (fun v wk hj hD K hK => ?_)) ?_
              · have h2 : v 2 = (.bool true) := hD 2 (by decide)
                simp only [n9D, n9E, putAll, Act.put, List.getD_cons_succ, List.getD_cons_zero, List.setIfInBounds_toArray, List.set_cons_zero, List.set_cons_succ, h2] at hK ⊢
                obtain ⟨q0, q1, q2, q3, q4, _⟩ := hj.box g2 y (by simp)
                go_simp
                exact hK.out _ _ (Below.refl _ _) rfl
              refine owes_cons (Owes.mk (o := ({ dst := some 49, op := .call { callee := .value (.func 19), args := #[.tmp 48], argTypes := #[24] }, type := 3, pos := "more.go:21", after := #[{ on := 3, ground := .data }, { on := 2, ground := .chain }, { on := 2, ground := .guard }], guard := some (2, true) } : Oper)) rfl (fun v wk hj hD K hK => ?_)) ?_
              · have h2 : v 2 = (.bool true) := hD 2 (by decide)
                have h3 : v 3 = y.v := hD 3 (by decide)
                simp only [n9D, n9E, putAll, Act.put, List.getD_cons_succ, List.getD_cons_zero, List.setIfInBounds_toArray, List.set_cons_zero, List.set_cons_succ, h2, h3] at hK ⊢
                go_simp
                refine (refDepth_at _ _ y (hj.in_ g2 y (by simp))).mono ?_
                rintro e w2 ⟨rfl, hb⟩
                exact hK.out _ _ hb (show Value.int _ _ = _ by rw [HM.out])
              refine owes_cons (Owes.mk (o := ({ dst := some 50, op := .binOp .lss 3 (.tmp 49) (.const (.int .i64 12)) 3, type := 4, pos := "more.go:21", after := #[{ on := 4, ground := .data }, { on := 2, ground := .guard }], guard := some (2, true) } : Oper)) rfl (fun v wk hj hD K hK => ?_)) ?_
              · have h2 : v 2 = (.bool true) := hD 2 (by decide)
                have h4 : v 4 = (.int .i64 (m)) := hD 4 (by decide)
                simp only [n9D, n9E, putAll, Act.put, List.getD_cons_succ, List.getD_cons_zero, List.setIfInBounds_toArray, List.set_cons_zero, List.set_cons_succ, h2, h4] at hK ⊢
                go_simp
                exact hK.out _ _ (Below.refl _ _) (show Value.bool _ = _ by rw [decide_eq_false (by omega)])
              refine owes_cons (Owes.mk (o := ({ dst := some 51, op := .pick (.tmp 47) (.tmp 50) (.const (.bool false)), type := 4, pos := "more.go:21", after := #[{ on := 2, ground := .data }, { on := 5, ground := .data }], guard := none } : Oper)) rfl (fun v wk hj hD K hK => ?_)) ?_
              · have h2 : v 2 = (.bool true) := hD 2 (by decide)
                have h5 : v 5 = (.bool false) := hD 5 (by decide)
                simp only [n9D, n9E, putAll, Act.put, List.getD_cons_succ, List.getD_cons_zero, List.setIfInBounds_toArray, List.set_cons_zero, List.set_cons_succ, h2, h5] at hK ⊢
                go_simp
                exact hK.out _ _ (Below.refl _ _) rfl
              refine owes_cons (Owes.mk (o := ({ dst := some 52, op := .move (.tmp 51), type := 4, pos := "more.go:21", after := #[{ on := 6, ground := .data }, { on := 4, ground := .chain }], guard := none } : Oper)) rfl (fun v wk hj hD K hK => ?_)) ?_
              · have h6 : v 6 = (.bool false) := hD 6 (by decide)
                simp only [n9D, n9E, putAll, Act.put, List.getD_cons_succ, List.getD_cons_zero, List.setIfInBounds_toArray, List.set_cons_zero, List.set_cons_succ, h6] at hK ⊢
                go_simp
                exact hK.out _ _ (Below.refl _ _) rfl
              refine owes_cons (Owes.mk (o := ({ dst := some 53, op := .load 24 (.tmp 5), type := 24, pos := "more.go:21", after := #[{ on := 7, ground := .guard }], guard := some (7, true) } : Oper)) rfl (fun v wk hj hD K hK => ?_)) ?_
              · have h7 : v 7 = (.bool false) := hD 7 (by decide)
                simp only [n9D, n9E, putAll, Act.put, List.getD_cons_succ, List.getD_cons_zero, List.setIfInBounds_toArray, List.set_cons_zero, List.set_cons_succ, h7] at hK ⊢
                go_simp
                exact hK.out _ _ (Below.refl _ _) rfl
              refine owes_cons (Owes.mk (o := ({ dst := some 54, op := .load 24 (.tmp 6), type := 24, pos := "more.go:21", after := #[{ on := 7, ground := .guard }], guard := some (7, true) } : Oper)) rfl (fun v wk hj hD K hK => ?_)) ?_
              · have h7 : v 7 = (.bool false) := hD 7 (by decide)
                simp only [n9D, n9E, putAll, Act.put, List.getD_cons_succ, List.getD_cons_zero, List.setIfInBounds_toArray, List.set_cons_zero, List.set_cons_succ, h7] at hK ⊢
                go_simp
                exact hK.out _ _ (Below.refl _ _) rfl
              refine owes_cons (Owes.mk (o := ({ dst := some 55, op := .call { callee := .value (.func 12), args := #[.tmp 53, .tmp 54], argTypes := #[24, 24] }, type := 3, pos := "more.go:21", after := #[{ on := 8, ground := .data }, { on := 9, ground := .data }, { on := 7, ground := .chain }, { on := 7, ground := .guard }], guard := some (7, true) } : Oper)) rfl (fun v wk hj hD K hK => ?_)) ?_
              · have h7 : v 7 = (.bool false) := hD 7 (by decide)
                have h8 : v 8 = undef := hD 8 (by decide)
                have h9 : v 9 = undef := hD 9 (by decide)
                simp only [n9D, n9E, putAll, Act.put, List.getD_cons_succ, List.getD_cons_zero, List.setIfInBounds_toArray, List.set_cons_zero, List.set_cons_succ, h7, h8, h9] at hK ⊢
                go_simp
                exact hK.out _ _ (Below.refl _ _) rfl
              refine owes_cons (Owes.mk (o := ({ dst := some 56, op := .load 24 (.tmp 2), type := 24, pos := "more.go:21", after := #[{ on := 7, ground := .guard }], guard := some (7, true) } : Oper)) rfl (fun v wk hj hD K hK => ?_)) ?_
              · have h7 : v 7 = (.bool false) := hD 7 (by decide)
                simp only [n9D, n9E, putAll, Act.put, List.getD_cons_succ, List.getD_cons_zero, List.setIfInBounds_toArray, List.set_cons_zero, List.set_cons_succ, h7] at hK ⊢
                go_simp
                exact hK.out _ _ (Below.refl _ _) rfl
              refine owes_cons (Owes.mk (o := ({ dst := some 57, op := .load 24 (.tmp 3), type := 24, pos := "more.go:21", after := #[{ on := 7, ground := .guard }], guard := some (7, true) } : Oper)) rfl (fun v wk hj hD K hK => ?_)) ?_
              · have h7 : v 7 = (.bool false) := hD 7 (by decide)
                simp only [n9D, n9E, putAll, Act.put, List.getD_cons_succ, List.getD_cons_zero, List.setIfInBounds_toArray, List.set_cons_zero, List.set_cons_succ, h7] at hK ⊢
                go_simp
                exact hK.out _ _ (Below.refl _ _) rfl
              refine owes_cons (Owes.mk (o := ({ dst := some 58, op := .call { callee := .value (.func 12), args := #[.tmp 56, .tmp 57], argTypes := #[24, 24] }, type := 3, pos := "more.go:21", after := #[{ on := 11, ground := .data }, { on := 12, ground := .data }, { on := 10, ground := .chain }, { on := 7, ground := .guard }], guard := some (7, true) } : Oper)) rfl (fun v wk hj hD K hK => ?_)) ?_
              · have h7 : v 7 = (.bool false) := hD 7 (by decide)
                have h11 : v 11 = undef := hD 11 (by decide)
                have h12 : v 12 = undef := hD 12 (by decide)
                simp only [n9D, n9E, putAll, Act.put, List.getD_cons_succ, List.getD_cons_zero, List.setIfInBounds_toArray, List.set_cons_zero, List.set_cons_succ, h7, h11, h12] at hK ⊢
                go_simp
                exact hK.out _ _ (Below.refl _ _) rfl
              refine owes_cons (Owes.mk (o := ({ dst := some 59, op := .binOp .neq 3 (.tmp 55) (.tmp 58) 3, type := 4, pos := "more.go:21", after := #[{ on := 10, ground := .data }, { on := 13, ground := .data }, { on := 7, ground := .guard }], guard := some (7, true) } : Oper)) rfl (fun v wk hj hD K hK => ?_)) ?_
              · have h7 : v 7 = (.bool false) := hD 7 (by decide)
                have h10 : v 10 = undef := hD 10 (by decide)
                have h13 : v 13 = undef := hD 13 (by decide)
                simp only [n9D, n9E, putAll, Act.put, List.getD_cons_succ, List.getD_cons_zero, List.setIfInBounds_toArray, List.set_cons_zero, List.set_cons_succ, h7, h10, h13] at hK ⊢
                go_simp
                exact hK.out _ _ (Below.refl _ _) rfl
              refine owes_cons (Owes.mk (o := ({ dst := some 60, op := .pick (.tmp 52) (.tmp 59) (.const (.bool false)), type := 4, pos := "more.go:21", after := #[{ on := 7, ground := .data }, { on := 14, ground := .data }], guard := none } : Oper)) rfl (fun v wk hj hD K hK => ?_)) ?_
              · have h7 : v 7 = (.bool false) := hD 7 (by decide)
                have h14 : v 14 = undef := hD 14 (by decide)
                simp only [n9D, n9E, putAll, Act.put, List.getD_cons_succ, List.getD_cons_zero, List.setIfInBounds_toArray, List.set_cons_zero, List.set_cons_succ, h7, h14] at hK ⊢
                go_simp
                exact hK.out _ _ (Below.refl _ _) rfl
              exact owes_nil
            · intro v wf hj hr
              have hl : v 15 = (.bool false) := hr 15 (by decide)
              simp only [n9D, putAll, Act.put, List.getD_cons_succ, List.getD_cons_zero, List.setIfInBounds_toArray, List.set_cons_zero, List.set_cons_succ, hl]
              clear hl hr
              go_wp2_with fail
              go_meet
              exact ⟨rfl, Lib.hid hj⟩
        · go_wp2_with fail
          refine region_phase_all [0, 1, 2, 3, 4, 5, 6, 7, 8, 9, 10, 11, 12, 13, 14, 15] n9D n9E (fun w' => Bxs w w' (d + 14) [(g7, u), (g6, s), (g5, r), (g2, y), (g1, x)]) (saidOf [Is (.int .i64 (n)), Is (.bool false), Is (.bool false), Is undef, Is undef, Is undef, Is (.bool false), Is (.bool false), Is undef, Is undef, Is undef, Is undef, Is undef, Is undef, Is undef, Is (.bool false)]) 74 rfl (by kernel_rfl) (by kernel_rfl) (by kernel_rfl) (fun _ _ h hb => h.next hb) (stays_said _ (stays_cons (Is.stays _) (stays_cons (Is.stays _) (stays_cons (Is.stays _) (stays_cons (Is.stays _) (stays_cons (Is.stays _) (stays_cons (Is.stays _) (stays_cons (Is.stays _) (stays_cons (Is.stays _) (stays_cons (Is.stays _) (stays_cons (Is.stays _) (stays_cons (Is.stays _) (stays_cons (Is.stays _) (stays_cons (Is.stays _) (stays_cons (Is.stays _) (stays_cons (Is.stays _) (stays_cons (Is.stays _) stays_nil))))))))))))))))) (HB.out.next (below_drewN _ _ 1)) (by kernel_rfl) ?_ ?_
          · skip
            refine owes_cons (Owes.mk (o := ({ dst := some 45, op := .move (.tmp 8), type := 3, pos := "more.go:21", after := #[], guard := none } : Oper)) rfl (fun v wk hj hD K hK => ?_)) ?_
            · simp only [n9D, n9E, putAll, Act.put, List.getD_cons_zero, List.setIfInBounds_toArray, List.set_cons_zero, List.set_cons_succ] at hK ⊢
              go_simp
              exact hK.out _ _ (Below.refl _ _) rfl
            refine owes_cons (Owes.mk (o := ({ dst := some 46, op := .binOp .lss 3 (.tmp 45) (.const (.int .i64 12)) 3, type := 4, pos := "more.go:21", after := #[{ on := 0, ground := .data }], guard := none } : Oper)) rfl (fun v wk hj hD K hK => ?_)) ?_
            · have h0 : v 0 = (.int .i64 (n)) := hD 0 (by decide)
              simp only [n9D, n9E, putAll, Act.put, List.getD_cons_succ, List.getD_cons_zero, List.setIfInBounds_toArray, List.set_cons_zero, List.set_cons_succ, h0] at hK ⊢
              go_simp
              exact hK.out _ _ (Below.refl _ _) (show Value.bool _ = _ by rw [decide_eq_false (by omega)])
            refine owes_cons (Owes.mk (o := ({ dst := some 47, op := .move (.tmp 46), type := 4, pos := "more.go:21", after := #[{ on := 1, ground := .data }], guard := none } : Oper)) rfl (fun v wk hj hD K hK => ?_)) ?_
            · have h1 : v 1 = (.bool false) := hD 1 (by decide)
              simp only [n9D, n9E, putAll, Act.put, List.getD_cons_succ, List.getD_cons_zero, List.setIfInBounds_toArray, List.set_cons_zero, List.set_cons_succ, h1] at hK ⊢
              go_simp
              exact hK.out _ _ (Below.refl _ _) rfl
            refine owes_cons (Owes.mk (o := ({ dst := some 48, op := .load 24 (.tmp 3), type := 24, pos := "more.go:21", after := #[{ on := 2, ground := .guard }], guard := some (2, true) } : Oper)) rfl (fun v wk hj hD K hK => ?_)) ?_
            · have h2 : v 2 = (.bool false) := hD 2 (by decide)
              simp only [n9D, n9E, putAll, Act.put, List.getD_cons_succ, List.getD_cons_zero, List.setIfInBounds_toArray, List.set_cons_zero, List.set_cons_succ, h2] at hK ⊢
              go_simp
              exact hK.out _ _ (Below.refl _ _) rfl
            refine owes_cons (Owes.mk (o := ({ dst := some 49, op := .call { callee := .value (.func 19), args := #[.tmp 48], argTypes := #[24] }, type := 3, pos := "more.go:21", after := #[{ on := 3, ground := .data }, { on := 2, ground := .chain }, { on := 2, ground := .guard }], guard := some (2, true) } : Oper)) rfl (fun v wk hj hD K hK => ?_)) ?_
            · have h2 : v 2 = (.bool false) := hD 2 (by decide)
              have h3 : v 3 = undef := hD 3 (by decide)
              simp only [n9D, n9E, putAll, Act.put, List.getD_cons_succ, List.getD_cons_zero, List.setIfInBounds_toArray, List.set_cons_zero, List.set_cons_succ, h2, h3] at hK ⊢
              go_simp
              exact hK.out _ _ (Below.refl _ _) rfl
            refine owes_cons (Owes.mk (o := ({ dst := some 50, op := .binOp .lss 3 (.tmp 49) (.const (.int .i64 12)) 3, type := 4, pos := "more.go:21", after := #[{ on := 4, ground := .data }, { on := 2, ground := .guard }], guard := some (2, true) } : Oper)) rfl (fun v wk hj hD K hK => ?_)) ?_
            · have h2 : v 2 = (.bool false) := hD 2 (by decide)
              have h4 : v 4 = undef := hD 4 (by decide)
              simp only [n9D, n9E, putAll, Act.put, List.getD_cons_succ, List.getD_cons_zero, List.setIfInBounds_toArray, List.set_cons_zero, List.set_cons_succ, h2, h4] at hK ⊢
              go_simp
              exact hK.out _ _ (Below.refl _ _) rfl
            refine owes_cons (Owes.mk (o := ({ dst := some 51, op := .pick (.tmp 47) (.tmp 50) (.const (.bool false)), type := 4, pos := "more.go:21", after := #[{ on := 2, ground := .data }, { on := 5, ground := .data }], guard := none } : Oper)) rfl (fun v wk hj hD K hK => ?_)) ?_
            · have h2 : v 2 = (.bool false) := hD 2 (by decide)
              have h5 : v 5 = undef := hD 5 (by decide)
              simp only [n9D, n9E, putAll, Act.put, List.getD_cons_succ, List.getD_cons_zero, List.setIfInBounds_toArray, List.set_cons_zero, List.set_cons_succ, h2, h5] at hK ⊢
              go_simp
              exact hK.out _ _ (Below.refl _ _) rfl
            refine owes_cons (Owes.mk (o := ({ dst := some 52, op := .move (.tmp 51), type := 4, pos := "more.go:21", after := #[{ on := 6, ground := .data }, { on := 4, ground := .chain }], guard := none } : Oper)) rfl (fun v wk hj hD K hK => ?_)) ?_
            · have h6 : v 6 = (.bool false) := hD 6 (by decide)
              simp only [n9D, n9E, putAll, Act.put, List.getD_cons_succ, List.getD_cons_zero, List.setIfInBounds_toArray, List.set_cons_zero, List.set_cons_succ, h6] at hK ⊢
              go_simp
              exact hK.out _ _ (Below.refl _ _) rfl
            refine owes_cons (Owes.mk (o := ({ dst := some 53, op := .load 24 (.tmp 5), type := 24, pos := "more.go:21", after := #[{ on := 7, ground := .guard }], guard := some (7, true) } : Oper)) rfl (fun v wk hj hD K hK => ?_)) ?_
            · have h7 : v 7 = (.bool false) := hD 7 (by decide)
              simp only [n9D, n9E, putAll, Act.put, List.getD_cons_succ, List.getD_cons_zero, List.setIfInBounds_toArray, List.set_cons_zero, List.set_cons_succ, h7] at hK ⊢
              go_simp
              exact hK.out _ _ (Below.refl _ _) rfl
            refine owes_cons (Owes.mk (o := ({ dst := some 54, op := .load 24 (.tmp 6), type := 24, pos := "more.go:21", after := #[{ on := 7, ground := .guard }], guard := some (7, true) } : Oper)) rfl (fun v wk hj hD K hK => ?_)) ?_
            · have h7 : v 7 = (.bool false) := hD 7 (by decide)
              simp only [n9D, n9E, putAll, Act.put, List.getD_cons_succ, List.getD_cons_zero, List.setIfInBounds_toArray, List.set_cons_zero, List.set_cons_succ, h7] at hK ⊢
              go_simp
              exact hK.out _ _ (Below.refl _ _) rfl
            refine owes_cons (Owes.mk (o := ({ dst := some 55, op := .call { callee := .value (.func 12), args := #[.tmp 53, .tmp 54], argTypes := #[24, 24] }, type := 3, pos := "more.go:21", after := #[{ on := 8, ground := .data }, { on := 9, ground := .data }, { on := 7, ground := .chain }, { on := 7, ground := .guard }], guard := some (7, true) } : Oper)) rfl (fun v wk hj hD K hK => ?_)) ?_
            · have h7 : v 7 = (.bool false) := hD 7 (by decide)
              have h8 : v 8 = undef := hD 8 (by decide)
              have h9 : v 9 = undef := hD 9 (by decide)
              simp only [n9D, n9E, putAll, Act.put, List.getD_cons_succ, List.getD_cons_zero, List.setIfInBounds_toArray, List.set_cons_zero, List.set_cons_succ, h7, h8, h9] at hK ⊢
              go_simp
              exact hK.out _ _ (Below.refl _ _) rfl
            refine owes_cons (Owes.mk (o := ({ dst := some 56, op := .load 24 (.tmp 2), type := 24, pos := "more.go:21", after := #[{ on := 7, ground := .guard }], guard := some (7, true) } : Oper)) rfl (fun v wk hj hD K hK => ?_)) ?_
            · have h7 : v 7 = (.bool false) := hD 7 (by decide)
              simp only [n9D, n9E, putAll, Act.put, List.getD_cons_succ, List.getD_cons_zero, List.setIfInBounds_toArray, List.set_cons_zero, List.set_cons_succ, h7] at hK ⊢
              go_simp
              exact hK.out _ _ (Below.refl _ _) rfl
            refine owes_cons (Owes.mk (o := ({ dst := some 57, op := .load 24 (.tmp 3), type := 24, pos := "more.go:21", after := #[{ on := 7, ground := .guard }], guard := some (7, true) } : Oper)) rfl (fun v wk hj hD K hK => ?_)) ?_
            · have h7 : v 7 = (.bool false) := hD 7 (by decide)
              simp only [n9D, n9E, putAll, Act.put, List.getD_cons_succ, List.getD_cons_zero, List.setIfInBounds_toArray, List.set_cons_zero, List.set_cons_succ, h7] at hK ⊢
              go_simp
              exact hK.out _ _ (Below.refl _ _) rfl
            refine owes_cons (Owes.mk (o := ({ dst := some 58, op := .call { callee := .value (.func 12), args := #[.tmp 56, .tmp 57], argTypes := #[24, 24] }, type := 3, pos := "more.go:21", after := #[{ on := 11, ground := .data }, { on := 12, ground := .data }, { on := 10, ground := .chain }, { on := 7, ground := .guard }], guard := some (7, true) } : Oper)) rfl (fun v wk hj hD K hK => ?_)) ?_
            · have h7 : v 7 = (.bool false) := hD 7 (by decide)
              have h11 : v 11 = undef := hD 11 (by decide)
              have h12 : v 12 = undef := hD 12 (by decide)
              simp only [n9D, n9E, putAll, Act.put, List.getD_cons_succ, List.getD_cons_zero, List.setIfInBounds_toArray, List.set_cons_zero, List.set_cons_succ, h7, h11, h12] at hK ⊢
              go_simp
              exact hK.out _ _ (Below.refl _ _) rfl
            refine owes_cons (Owes.mk (o := ({ dst := some 59, op := .binOp .neq 3 (.tmp 55) (.tmp 58) 3, type := 4, pos := "more.go:21", after := #[{ on := 10, ground := .data }, { on := 13, ground := .data }, { on := 7, ground := .guard }], guard := some (7, true) } : Oper)) rfl (fun v wk hj hD K hK => ?_)) ?_
            · have h7 : v 7 = (.bool false) := hD 7 (by decide)
              have h10 : v 10 = undef := hD 10 (by decide)
              have h13 : v 13 = undef := hD 13 (by decide)
              simp only [n9D, n9E, putAll, Act.put, List.getD_cons_succ, List.getD_cons_zero, List.setIfInBounds_toArray, List.set_cons_zero, List.set_cons_succ, h7, h10, h13] at hK ⊢
              go_simp
              exact hK.out _ _ (Below.refl _ _) rfl
            refine owes_cons (Owes.mk (o := ({ dst := some 60, op := .pick (.tmp 52) (.tmp 59) (.const (.bool false)), type := 4, pos := "more.go:21", after := #[{ on := 7, ground := .data }, { on := 14, ground := .data }], guard := none } : Oper)) rfl (fun v wk hj hD K hK => ?_)) ?_
            · have h7 : v 7 = (.bool false) := hD 7 (by decide)
              have h14 : v 14 = undef := hD 14 (by decide)
              simp only [n9D, n9E, putAll, Act.put, List.getD_cons_succ, List.getD_cons_zero, List.setIfInBounds_toArray, List.set_cons_zero, List.set_cons_succ, h7, h14] at hK ⊢
              go_simp
              exact hK.out _ _ (Below.refl _ _) rfl
            exact owes_nil
          · intro v wf hj hr
            have hl : v 15 = (.bool false) := hr 15 (by decide)
            simp only [n9D, putAll, Act.put, List.getD_cons_succ, List.getD_cons_zero, List.setIfInBounds_toArray, List.set_cons_zero, List.set_cons_succ, hl]
            clear hl hr
            go_wp2_with fail
            go_meet
            exact ⟨rfl, Lib.hid hj⟩
      case rest =>
        obtain ⟨rfl, HB⟩ := hcut
        go_upto_region 11 with fail
        go_wp2_with fail
        refine region_phase_all [0, 1, 2, 3, 4, 5, 6, 7, 8, 9, 10, 11, 12, 13] n11D n11E (fun w' => Bxs w w' (d + 14) [(g7, u), (g6, s), (g5, r), (g2, y), (g1, x)]) (saidOf [Is r.v, Is u.v, Is (.int .i64 (-1)), Is (.bool true), Is (.bool true), IsAt 14 (rowV []), Is r.v, Is (.int .i64 (-1)), Is (.bool true), Is (.bool true), Is (.bool true), Is (.bool true), Is (.bool true), Is (.bool true)]) 74 rfl (by kernel_rfl) (by kernel_rfl) (by kernel_rfl) (fun _ _ h hb => h.next hb) (stays_said _ (stays_cons (Is.stays _) (stays_cons (Is.stays _) (stays_cons (Is.stays _) (stays_cons (Is.stays _) (stays_cons (Is.stays _) (stays_cons (IsAt.stays _ _) (stays_cons (Is.stays _) (stays_cons (Is.stays _) (stays_cons (Is.stays _) (stays_cons (Is.stays _) (stays_cons (Is.stays _) (stays_cons (Is.stays _) (stays_cons (Is.stays _) (stays_cons (Is.stays _) stays_nil))))))))))))))) (HB.out.next (below_drewN _ _ 1)) (by kernel_rfl) ?_ ?_
        · skip
          refine owes_cons (Owes.mk (o := ({ dst := some 61, op := .load 24 (.tmp 5), type := 24, pos := "more.go:24", after := #[], guard := none } : Oper)) rfl (fun v wk hj hD K hK => ?_)) ?_
          · simp only [n11D, n11E, putAll, Act.put, List.getD_cons_zero, List.setIfInBounds_toArray, List.set_cons_zero, List.set_cons_succ] at hK ⊢
            obtain ⟨q0, q1, q2, q3, q4, _⟩ := hj.box g5 r (by simp)
            go_simp
            exact hK.out _ _ (Below.refl _ _) rfl
          refine owes_cons (Owes.mk (o := ({ dst := some 62, op := .load 24 (.tmp 7), type := 24, pos := "more.go:24", after := #[], guard := none } : Oper)) rfl (fun v wk hj hD K hK => ?_)) ?_
          · simp only [n11D, n11E, putAll, Act.put, List.getD_cons_succ, List.getD_cons_zero, List.setIfInBounds_toArray, List.set_cons_zero, List.set_cons_succ] at hK ⊢
            obtain ⟨q0, q1, q2, q3, q4, _⟩ := hj.box g7 u (by simp)
            go_simp
            exact hK.out _ _ (Below.refl _ _) rfl
          refine owes_cons (Owes.mk (o := ({ dst := some 63, op := .call { callee := .value (.func 12), args := #[.tmp 61, .tmp 62], argTypes := #[24, 24] }, type := 3, pos := "more.go:24", after := #[{ on := 0, ground := .data }, { on := 1, ground := .data }], guard := none } : Oper)) rfl (fun v wk hj hD K hK => ?_)) ?_
          · have h0 : v 0 = r.v := hD 0 (by decide)
            have h1 : v 1 = u.v := hD 1 (by decide)
            simp only [n11D, n11E, putAll, Act.put, List.getD_cons_succ, List.getD_cons_zero, List.setIfInBounds_toArray, List.set_cons_zero, List.set_cons_succ, h0, h1] at hK ⊢
            go_simp
            refine (cmp_at _ _ r u (hj.in_ g5 r (by simp)) (hj.in_ g7 u (by simp))).mono ?_
            rintro e w2 ⟨rfl, hb⟩
            exact hK.out _ _ hb (show Value.int _ _ = _ by rw [HRU.out])
          refine owes_cons (Owes.mk (o := ({ dst := some 64, op := .binOp .eql 3 (.tmp 63) (.const (.int .i64 (-1))) 3, type := 4, pos := "more.go:24", after := #[{ on := 2, ground := .data }], guard := none } : Oper)) rfl (fun v wk hj hD K hK => ?_)) ?_
          · have h2 : v 2 = (.int .i64 (-1)) := hD 2 (by decide)
            simp only [n11D, n11E, putAll, Act.put, List.getD_cons_succ, List.getD_cons_zero, List.setIfInBounds_toArray, List.set_cons_zero, List.set_cons_succ, h2] at hK ⊢
            go_simp
            exact hK.out _ _ (Below.refl _ _) rfl
          refine owes_cons (Owes.mk (o := ({ dst := some 65, op := .move (.tmp 64), type := 4, pos := "more.go:24", after := #[{ on := 3, ground := .data }, { on := 2, ground := .chain }], guard := none } : Oper)) rfl (fun v wk hj hD K hK => ?_)) ?_
          · have h3 : v 3 = (.bool true) := hD 3 (by decide)
            simp only [n11D, n11E, putAll, Act.put, List.getD_cons_succ, List.getD_cons_zero, List.setIfInBounds_toArray, List.set_cons_zero, List.set_cons_succ, h3] at hK ⊢
            go_simp
            exact hK.out _ _ (Below.refl _ _) rfl
          refine owes_cons (Owes.mk (o := ({ dst := some 66, op := .call { callee := .value (.func 29), args := #[.const (.slice none 0 0)], argTypes := #[22] }, type := 24, pos := "more.go:24", after := #[{ on := 4, ground := .chain }, { on := 4, ground := .guard }], guard := some (4, true) } : Oper)) rfl (fun v wk hj hD K hK => ?_)) ?_
          · have h4 : v 4 = (.bool true) := hD 4 (by decide)
            simp only [n11D, n11E, putAll, Act.put, List.getD_cons_succ, List.getD_cons_zero, List.setIfInBounds_toArray, List.set_cons_zero, List.set_cons_succ, h4] at hK ⊢
            go_simp
            refine (row_none _).mono ?_
            rintro e w2 ⟨q, hq, rfl, iq, hb⟩
            exact hK.out _ _ hb ⟨q, rfl, hq, iq⟩
          refine owes_cons (Owes.mk (o := ({ dst := some 67, op := .load 24 (.tmp 5), type := 24, pos := "more.go:24", after := #[{ on := 4, ground := .guard }], guard := some (4, true) } : Oper)) rfl (fun v wk hj hD K hK => ?_)) ?_
          · have h4 : v 4 = (.bool true) := hD 4 (by decide)
            simp only [n11D, n11E, putAll, Act.put, List.getD_cons_succ, List.getD_cons_zero, List.setIfInBounds_toArray, List.set_cons_zero, List.set_cons_succ, h4] at hK ⊢
            obtain ⟨q0, q1, q2, q3, q4, _⟩ := hj.box g5 r (by simp)
            go_simp
            exact hK.out _ _ (Below.refl _ _) rfl
          refine owes_cons (Owes.mk (o := ({ dst := some 68, op := .call { callee := .value (.func 12), args := #[.tmp 66, .tmp 67], argTypes := #[24, 24] }, type := 3, pos := "more.go:24", after := #[{ on := 5, ground := .data }, { on := 6, ground := .data }, { on := 5, ground := .chain }, { on := 4, ground := .guard }], guard := some (4, true) } : Oper)) rfl (fun v wk hj hD K hK => ?_)) ?_
          · have h4 : v 4 = (.bool true) := hD 4 (by decide)
            obtain ⟨q5, h5, e5, i5⟩ : ∃ q : At, v 5 = q.v ∧ q.t = (rowV []) ∧ q.In wk 14 := hD 5 (by decide)
            have h6 : v 6 = r.v := hD 6 (by decide)
            simp only [n11D, n11E, putAll, Act.put, List.getD_cons_succ, List.getD_cons_zero, List.setIfInBounds_toArray, List.set_cons_zero, List.set_cons_succ, h4, h5, h6] at hK ⊢
            go_simp
            refine (cmp_at _ (d + 14) q5 r (i5.up (by omega)) (hj.in_ g5 r (by simp))).mono ?_
            rintro e w2 ⟨rfl, hb⟩
            exact hK.out _ _ hb (show Value.int _ _ = _ by rw [e5, HR.out, cmp_row_none])
          refine owes_cons (Owes.mk (o := ({ dst := some 69, op := .binOp .eql 3 (.tmp 68) (.const (.int .i64 (-1))) 3, type := 4, pos := "more.go:24", after := #[{ on := 7, ground := .data }, { on := 4, ground := .guard }], guard := some (4, true) } : Oper)) rfl (fun v wk hj hD K hK => ?_)) ?_
          · have h4 : v 4 = (.bool true) := hD 4 (by decide)
            have h7 : v 7 = (.int .i64 (-1)) := hD 7 (by decide)
            simp only [n11D, n11E, putAll, Act.put, List.getD_cons_succ, List.getD_cons_zero, List.setIfInBounds_toArray, List.set_cons_zero, List.set_cons_succ, h4, h7] at hK ⊢
            go_simp
            exact hK.out _ _ (Below.refl _ _) rfl
          refine owes_cons (Owes.mk (o := ({ dst := some 70, op := .pick (.tmp 65) (.tmp 69) (.const (.bool false)), type := 4, pos := "more.go:24", after := #[{ on := 4, ground := .data }, { on := 8, ground := .data }], guard := none } : Oper)) rfl (fun v wk hj hD K hK => ?_)) ?_
          · have h4 : v 4 = (.bool true) := hD 4 (by decide)
            have h8 : v 8 = (.bool true) := hD 8 (by decide)
            simp only [n11D, n11E, putAll, Act.put, List.getD_cons_succ, List.getD_cons_zero, List.setIfInBounds_toArray, List.set_cons_zero, List.set_cons_succ, h4, h8] at hK ⊢
            go_simp
            exact hK.out _ _ (Below.refl _ _) rfl
          refine owes_cons (Owes.mk (o := ({ dst := some 71, op := .move (.tmp 70), type := 4, pos := "more.go:24", after := #[{ on := 9, ground := .data }, { on := 7, ground := .chain }], guard := none } : Oper)) rfl (fun v wk hj hD K hK => ?_)) ?_
          · have h9 : v 9 = (.bool true) := hD 9 (by decide)
            simp only [n11D, n11E, putAll, Act.put, List.getD_cons_succ, List.getD_cons_zero, List.setIfInBounds_toArray, List.set_cons_zero, List.set_cons_succ, h9] at hK ⊢
            go_simp
            exact hK.out _ _ (Below.refl _ _) rfl
          refine owes_cons (Owes.mk (o := ({ dst := some 72, op := .call { callee := .value (.func 11), args := #[], argTypes := #[] }, type := 4, pos := "more.go:24", after := #[{ on := 10, ground := .chain }, { on := 10, ground := .guard }], guard := some (10, true) } : Oper)) rfl (fun v wk hj hD K hK => ?_)) ?_
          · have h10 : v 10 = (.bool true) := hD 10 (by decide)
            simp only [n11D, n11E, putAll, Act.put, List.getD_cons_succ, List.getD_cons_zero, List.setIfInBounds_toArray, List.set_cons_zero, List.set_cons_succ, h10] at hK ⊢
            go_simp
            refine (known_any _).mono ?_
            rintro e w2 ⟨rfl, hb⟩
            exact hK.out _ _ hb rfl
          refine owes_cons (Owes.mk (o := ({ dst := some 73, op := .pick (.tmp 71) (.tmp 72) (.const (.bool false)), type := 4, pos := "more.go:24", after := #[{ on := 10, ground := .data }, { on := 11, ground := .data }], guard := none } : Oper)) rfl (fun v wk hj hD K hK => ?_)) ?_
          · have h10 : v 10 = (.bool true) := hD 10 (by decide)
            have h11 : v 11 = (.bool true) := hD 11 (by decide)
            simp only [n11D, n11E, putAll, Act.put, List.getD_cons_succ, List.getD_cons_zero, List.setIfInBounds_toArray, List.set_cons_zero, List.set_cons_succ, h10, h11] at hK ⊢
            go_simp
            exact hK.out _ _ (Below.refl _ _) rfl
          refine owes_cons (Owes.mk (o := ({ dst := some 4, op := .assign (.tmp 73), type := 4, pos := "more.go:24", after := #[{ on := 12, ground := .data }, { on := 11, ground := .chain }, { on := 0, ground := .phase }, { on := 1, ground := .phase }, { on := 2, ground := .phase }, { on := 3, ground := .phase }, { on := 4, ground := .phase }, { on := 5, ground := .phase }, { on := 6, ground := .phase }, { on := 7, ground := .phase }, { on := 8, ground := .phase }, { on := 9, ground := .phase }, { on := 10, ground := .phase }, { on := 11, ground := .phase }, { on := 12, ground := .phase }], guard := none } : Oper)) rfl (fun v wk hj hD K hK => ?_)) ?_
          · have h12 : v 12 = (.bool true) := hD 12 (by decide)
            simp only [n11D, n11E, putAll, Act.put, List.getD_cons_succ, List.getD_cons_zero, List.setIfInBounds_toArray, List.set_cons_zero, List.set_cons_succ, h12] at hK ⊢
            go_simp
            exact hK.out _ _ (Below.refl _ _) rfl
          exact owes_nil
        · intro v wf hj hr
          have hl : v 13 = (.bool true) := hr 13 (by decide)
          simp only [n11D, putAll, Act.put, List.getD_cons_succ, List.getD_cons_zero, List.setIfInBounds_toArray, List.set_cons_zero, List.set_cons_succ, hl]
          clear hl hr
          go_wp2_with fail
          go_ret
          exact ⟨rfl, hj.bel⟩
  · go_wp2_with fail
    refine (known_any _).mono ?_
    rintro e w2 ⟨rfl, hb2⟩
    go_wp2
    go_ret
    exact ⟨rfl, bnext H1.out.bel hb2⟩
end Go.Proofs.Ytdolejafihgpmaa
