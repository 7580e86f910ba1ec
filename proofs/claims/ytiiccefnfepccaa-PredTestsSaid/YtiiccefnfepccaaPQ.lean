/- A predicate and a value in their boxes; PredTests: the walk. -/
import Derived.Test.YtiiccefnfepccaaPM
import Derived.Test.YtiiccefnfepccaaPL
namespace Go.Proofs.Ytiiccefnfepccaa
set_option maxRecDepth 100000
open Go.RowKit Go.Sort

/-- A predicate and a value in their boxes. -/
structure PV (w0 : World) (d g1 : Nat) (x : Pt) (g2 : Nat) (y : At) (w : World) : Prop where
  b1 : BP w g1 x
  i1 : x.In w d
  b2 : Bx w g2 y
  i2 : y.In w d
  bel : Below w0.heap.size w0 w
theorem PV.next {w0 : World} {d g1 : Nat} {x : Pt} {g2 : Nat} {y : At} {a b : World} (h : PV w0 d g1 x g2 y a) (hb : Below a.heap.size a b) : PV w0 d g1 x g2 y b :=
  ⟨h.b1.next hb, h.i1.next hb, h.b2.next hb, h.i2.next hb, bnext h.bel hb⟩
theorem PV.new (w : World) (d : Nat) (x : Pt) (y : At) (hx : x.In w d) (hy : y.In w d) (W : World) (hW : (w.alloc (.cells #[.int .i64 x.t.k, .slice x.A x.t.v.length x.c, .slice x.A' x.t.p.length x.c'] 25)).alloc (.cells #[.int .i64 y.t.k, .int .i64 y.t.n, .string y.t.s, .slice y.A y.t.l.length y.c, .slice y.A' y.t.m.length y.c'] 27) = W) : PV w d w.heap.size x (w.heap.size + 1) y W := by
  obtain ⟨k1, k2, hz, hb⟩ := boxesPV _ _ _ _ hW
  exact ⟨k1, hx.next hb, k2, hy.next hb, hb⟩
theorem row_one' (w : World) (d : Nat) (y : At) (hy : y.In w d) : Rw (w.alloc (.cells #[.int .i64 y.t.k, .int .i64 y.t.n, .string y.t.s, .slice y.A y.t.l.length y.c, .slice y.A' y.t.m.length y.c'] 27)) 0 (w.alloc (.cells #[.int .i64 y.t.k, .int .i64 y.t.n, .string y.t.s, .slice y.A y.t.l.length y.c, .slice y.A' y.t.m.length y.c'] 27)).heap.size d (some ⟨w.heap.size, 0, none⟩) 1 [y.t] :=
  row_lay w d [y] (by intro x hx; rw [List.mem_singleton.1 hx]; exact hy) (by simp)

def lt3D : Nat → Tmp := fun j => [10, 11, 12, 13, 14, 15, 16, 17, 18, 19, 20, 21, 22, 23, 24, 25, 26, 4].getD j 0
def lt3E : Nat → List Nat := fun j => [[], [0], [], [2], [1, 3], [4], [5], [5], [5, 6, 7], [5], [5], [5, 9, 10], [5, 8, 11], [5, 12], [13], [14], [14, 15], [16]].getD j []

set_option maxHeartbeats 6400000 in
theorem tests_law (w : World) (d : Nat) (x : Pt) (y : At) (hx : x.In w d) (hy : y.In w d) : Calls Try.prog 3 #[x.val, y.v] w fun e w' => e = .returned (.bool true) ∧ Below w.heap.size w w' := by
  have HX := Lib.hid hx
  have HY := Lib.hid hy
  clear hx hy
  unfold Pt.val At.v
  go_enter Try.func3, Try.ntmps3
  go_upto_region 1 with fail
  generalize hW : World.alloc (World.alloc _ _) _ = W
  have K := Lib.hid (PV.new w d x y HX.out HY.out W hW)
  obtain ⟨⟨a0, a1, a2, _⟩, i1, ⟨y0, y1, y2, y3, y4, _⟩, i2, bel⟩ := K.out
  have hb := below_new W (.cells #[.int .i64 y.t.k, .int .i64 y.t.n, .string y.t.s, .slice y.A y.t.l.length y.c, .slice y.A' y.t.m.length y.c'] 27)
  have RO := Lib.hid (row_one' W d y i2)
  have K1 := Lib.hid (K.out.next hb)
  clear hW i1 i2 bel hb
  go_wp2_with fail
  refine (much_any _ d d x K1.out.i1 _ 1 [y.t] RO.out).mono ?_
  rintro e w1 ⟨b, rfl, hb⟩
  have KF := Lib.hid (K1.out.next hb)
  clear a0 a1 a2 y0 y1 y2 y3 y4 hb K1 RO K
  cases b
  case true =>
    go_wp2_with fail
    refine (known_any w1).mono ?_
    rintro e wk ⟨rfl, hbk⟩
    have BK := Lib.hid (bnext KF.out.bel hbk)
    clear hbk
    go_wp2
    go_ret
    exact ⟨rfl, BK.out⟩
  go_upto_region 3 with fail
  refine region_phase_all [0, 1, 2, 3, 4, 5, 6, 7, 8, 9, 10, 11, 12, 13, 14, 15, 16, 17] lt3D lt3E (fun w' => PV w d w.heap.size x (w.heap.size + 1) y w') (saidOf [Is (x.val), Is (.int .i64 (errI (okP 12 x.t))), Is (x.val), Is (.int .i64 (errI (okP 12 x.t))), Is (.bool true), Is (.bool true), Is (x.val), Is (y.v), Is (.bool (testV x.t y.t)), Is (x.val), Is (y.v), Is (.bool (testV x.t y.t)), Is (.bool true), Is (.bool true), Is (.bool true), Is (.bool true), Is (.bool true), Is (.bool true)]) 27 (by rfl) (by kernel_rfl) (by kernel_rfl) (by kernel_rfl) (fun _ _ h hb => h.next hb) (stays_said _ (stays_cons (Is.stays _) (stays_cons (Is.stays _) (stays_cons (Is.stays _) (stays_cons (Is.stays _) (stays_cons (Is.stays _) (stays_cons (Is.stays _) (stays_cons (Is.stays _) (stays_cons (Is.stays _) (stays_cons (Is.stays _) (stays_cons (Is.stays _) (stays_cons (Is.stays _) (stays_cons (Is.stays _) (stays_cons (Is.stays _) (stays_cons (Is.stays _) (stays_cons (Is.stays _) (stays_cons (Is.stays _) (stays_cons (Is.stays _) (stays_cons (Is.stays _) stays_nil))))))))))))))))))) (KF.out.next (below_drewN _ _ 1)) (by kernel_rfl) ?_ ?_
  · skip
    refine owes_cons (Owes.mk (o := ({ dst := some 10, op := .load 25 (.tmp 2), type := 25, pos := "law.go:36", after := #[], guard := none } : Oper)) rfl (fun v wk hj hD K hK => ?_)) ?_
    · simp only [lt3D, lt3E, putAll, Act.put, List.getD_cons_zero, List.setIfInBounds_toArray, List.set_cons_zero, List.set_cons_succ] at hK ⊢
      obtain ⟨a0, a1, a2, _⟩ := hj.b1
      go_simp
      exact hK.out _ _ (Below.refl _ _) rfl
    refine owes_cons (Owes.mk (o := ({ dst := some 11, op := .call { callee := .value (.func 12), args := #[.tmp 10], argTypes := #[25] }, type := 30, pos := "law.go:36", after := #[{ on := 0, ground := .data }], guard := none } : Oper)) rfl (fun v wk hj hD K hK => ?_)) ?_
    · have h0 : v 0 = (x.val) := hD 0 (by decide)
      simp only [lt3D, lt3E, putAll, Act.put, List.getD_cons_succ, List.getD_cons_zero, List.setIfInBounds_toArray, List.set_cons_zero, List.set_cons_succ, h0] at hK ⊢
      go_simp
      refine (pcheck_any wk d x hj.i1).mono ?_
      rintro e w2 ⟨rfl, hb⟩
      exact hK.out _ _ hb rfl
    refine owes_cons (Owes.mk (o := ({ dst := some 12, op := .load 25 (.tmp 2), type := 25, pos := "law.go:36", after := #[], guard := none } : Oper)) rfl (fun v wk hj hD K hK => ?_)) ?_
    · simp only [lt3D, lt3E, putAll, Act.put, List.getD_cons_succ, List.getD_cons_zero, List.setIfInBounds_toArray, List.set_cons_zero, List.set_cons_succ] at hK ⊢
      obtain ⟨a0, a1, a2, _⟩ := hj.b1
      go_simp
      exact hK.out _ _ (Below.refl _ _) rfl
    refine owes_cons (Owes.mk (o := ({ dst := some 13, op := .call { callee := .value (.func 13), args := #[.tmp 12], argTypes := #[25] }, type := 3, pos := "law.go:36", after := #[{ on := 2, ground := .data }, { on := 1, ground := .chain }], guard := none } : Oper)) rfl (fun v wk hj hD K hK => ?_)) ?_
    · have h2 : v 2 = (x.val) := hD 2 (by decide)
      simp only [lt3D, lt3E, putAll, Act.put, List.getD_cons_succ, List.getD_cons_zero, List.setIfInBounds_toArray, List.set_cons_zero, List.set_cons_succ, h2] at hK ⊢
      go_simp
      refine (refPCheck wk d x hj.i1).mono ?_
      rintro e w2 ⟨rfl, hb⟩
      exact hK.out _ _ hb rfl
    refine owes_cons (Owes.mk (o := ({ dst := some 14, op := .binOp .eql 3 (.tmp 11) (.tmp 13) 3, type := 4, pos := "law.go:36", after := #[{ on := 1, ground := .data }, { on := 3, ground := .data }], guard := none } : Oper)) rfl (fun v wk hj hD K hK => ?_)) ?_
    · have h1 : v 1 = (.int .i64 (errI (okP 12 x.t))) := hD 1 (by decide)
      have h3 : v 3 = (.int .i64 (errI (okP 12 x.t))) := hD 3 (by decide)
      simp only [lt3D, lt3E, putAll, Act.put, List.getD_cons_succ, List.getD_cons_zero, List.setIfInBounds_toArray, List.set_cons_zero, List.set_cons_succ, h1, h3] at hK ⊢
      go_simp
      exact hK.out _ _ (Below.refl _ _) (by first | rfl | exact congrArg Value.bool (beq_self_eq_true _))
    refine owes_cons (Owes.mk (o := ({ dst := some 15, op := .move (.tmp 14), type := 4, pos := "law.go:36", after := #[{ on := 4, ground := .data }, { on := 3, ground := .chain }], guard := none } : Oper)) rfl (fun v wk hj hD K hK => ?_)) ?_
    · have h4 : v 4 = (.bool true) := hD 4 (by decide)
      simp only [lt3D, lt3E, putAll, Act.put, List.getD_cons_succ, List.getD_cons_zero, List.setIfInBounds_toArray, List.set_cons_zero, List.set_cons_succ, h4] at hK ⊢
      go_simp
      exact hK.out _ _ (Below.refl _ _) rfl
    refine owes_cons (Owes.mk (o := ({ dst := some 16, op := .load 25 (.tmp 2), type := 25, pos := "law.go:36", after := #[{ on := 5, ground := .guard }], guard := some (5, true) } : Oper)) rfl (fun v wk hj hD K hK => ?_)) ?_
    · have h5 : v 5 = (.bool true) := hD 5 (by decide)
      simp only [lt3D, lt3E, putAll, Act.put, List.getD_cons_succ, List.getD_cons_zero, List.setIfInBounds_toArray, List.set_cons_zero, List.set_cons_succ, h5] at hK ⊢
      obtain ⟨a0, a1, a2, _⟩ := hj.b1
      go_simp
      exact hK.out _ _ (Below.refl _ _) rfl
    refine owes_cons (Owes.mk (o := ({ dst := some 17, op := .load 27 (.tmp 3), type := 27, pos := "law.go:36", after := #[{ on := 5, ground := .guard }], guard := some (5, true) } : Oper)) rfl (fun v wk hj hD K hK => ?_)) ?_
    · have h5 : v 5 = (.bool true) := hD 5 (by decide)
      simp only [lt3D, lt3E, putAll, Act.put, List.getD_cons_succ, List.getD_cons_zero, List.setIfInBounds_toArray, List.set_cons_zero, List.set_cons_succ, h5] at hK ⊢
      obtain ⟨a0, a1, a2, a3, a4, _⟩ := hj.b2
      go_simp
      exact hK.out _ _ (Below.refl _ _) rfl
    refine owes_cons (Owes.mk (o := ({ dst := some 18, op := .call { callee := .value (.func 14), args := #[.tmp 16, .tmp 17], argTypes := #[25, 27] }, type := 4, pos := "law.go:36", after := #[{ on := 6, ground := .data }, { on := 7, ground := .data }, { on := 5, ground := .chain }, { on := 5, ground := .guard }], guard := some (5, true) } : Oper)) rfl (fun v wk hj hD K hK => ?_)) ?_
    · have h5 : v 5 = (.bool true) := hD 5 (by decide)
      have h6 : v 6 = (x.val) := hD 6 (by decide)
      have h7 : v 7 = (y.v) := hD 7 (by decide)
      simp only [lt3D, lt3E, putAll, Act.put, List.getD_cons_succ, List.getD_cons_zero, List.setIfInBounds_toArray, List.set_cons_zero, List.set_cons_succ, h5, h6, h7] at hK ⊢
      go_simp
      refine (test_any wk d d x y hj.i1 hj.i2).mono ?_
      rintro e w2 ⟨rfl, hb⟩
      exact hK.out _ _ hb rfl
    refine owes_cons (Owes.mk (o := ({ dst := some 19, op := .load 25 (.tmp 2), type := 25, pos := "law.go:36", after := #[{ on := 5, ground := .guard }], guard := some (5, true) } : Oper)) rfl (fun v wk hj hD K hK => ?_)) ?_
    · have h5 : v 5 = (.bool true) := hD 5 (by decide)
      simp only [lt3D, lt3E, putAll, Act.put, List.getD_cons_succ, List.getD_cons_zero, List.setIfInBounds_toArray, List.set_cons_zero, List.set_cons_succ, h5] at hK ⊢
      obtain ⟨a0, a1, a2, _⟩ := hj.b1
      go_simp
      exact hK.out _ _ (Below.refl _ _) rfl
    refine owes_cons (Owes.mk (o := ({ dst := some 20, op := .load 27 (.tmp 3), type := 27, pos := "law.go:36", after := #[{ on := 5, ground := .guard }], guard := some (5, true) } : Oper)) rfl (fun v wk hj hD K hK => ?_)) ?_
    · have h5 : v 5 = (.bool true) := hD 5 (by decide)
      simp only [lt3D, lt3E, putAll, Act.put, List.getD_cons_succ, List.getD_cons_zero, List.setIfInBounds_toArray, List.set_cons_zero, List.set_cons_succ, h5] at hK ⊢
      obtain ⟨a0, a1, a2, a3, a4, _⟩ := hj.b2
      go_simp
      exact hK.out _ _ (Below.refl _ _) rfl
    refine owes_cons (Owes.mk (o := ({ dst := some 21, op := .call { callee := .value (.func 15), args := #[.tmp 19, .tmp 20], argTypes := #[25, 27] }, type := 4, pos := "law.go:36", after := #[{ on := 9, ground := .data }, { on := 10, ground := .data }, { on := 8, ground := .chain }, { on := 5, ground := .guard }], guard := some (5, true) } : Oper)) rfl (fun v wk hj hD K hK => ?_)) ?_
    · have h5 : v 5 = (.bool true) := hD 5 (by decide)
      have h9 : v 9 = (x.val) := hD 9 (by decide)
      have h10 : v 10 = (y.v) := hD 10 (by decide)
      simp only [lt3D, lt3E, putAll, Act.put, List.getD_cons_succ, List.getD_cons_zero, List.setIfInBounds_toArray, List.set_cons_zero, List.set_cons_succ, h5, h9, h10] at hK ⊢
      go_simp
      refine (refPTest wk d d x y hj.i1 hj.i2).mono ?_
      rintro e w2 ⟨rfl, hb⟩
      exact hK.out _ _ hb rfl
    refine owes_cons (Owes.mk (o := ({ dst := some 22, op := .binOp .eql 4 (.tmp 18) (.tmp 21) 4, type := 4, pos := "law.go:36", after := #[{ on := 8, ground := .data }, { on := 11, ground := .data }, { on := 5, ground := .guard }], guard := some (5, true) } : Oper)) rfl (fun v wk hj hD K hK => ?_)) ?_
    · have h5 : v 5 = (.bool true) := hD 5 (by decide)
      have h8 : v 8 = (.bool (testV x.t y.t)) := hD 8 (by decide)
      have h11 : v 11 = (.bool (testV x.t y.t)) := hD 11 (by decide)
      simp only [lt3D, lt3E, putAll, Act.put, List.getD_cons_succ, List.getD_cons_zero, List.setIfInBounds_toArray, List.set_cons_zero, List.set_cons_succ, h5, h8, h11] at hK ⊢
      go_simp
      exact hK.out _ _ (Below.refl _ _) (by first | rfl | exact congrArg Value.bool (beq_self_eq_true _))
    refine owes_cons (Owes.mk (o := ({ dst := some 23, op := .pick (.tmp 15) (.tmp 22) (.const (.bool false)), type := 4, pos := "law.go:36", after := #[{ on := 5, ground := .data }, { on := 12, ground := .data }], guard := none } : Oper)) rfl (fun v wk hj hD K hK => ?_)) ?_
    · have h5 : v 5 = (.bool true) := hD 5 (by decide)
      have h12 : v 12 = (.bool true) := hD 12 (by decide)
      simp only [lt3D, lt3E, putAll, Act.put, List.getD_cons_succ, List.getD_cons_zero, List.setIfInBounds_toArray, List.set_cons_zero, List.set_cons_succ, h5, h12] at hK ⊢
      go_simp
      exact hK.out _ _ (Below.refl _ _) rfl
    refine owes_cons (Owes.mk (o := ({ dst := some 24, op := .move (.tmp 23), type := 4, pos := "law.go:36", after := #[{ on := 13, ground := .data }, { on := 11, ground := .chain }], guard := none } : Oper)) rfl (fun v wk hj hD K hK => ?_)) ?_
    · have h13 : v 13 = (.bool true) := hD 13 (by decide)
      simp only [lt3D, lt3E, putAll, Act.put, List.getD_cons_succ, List.getD_cons_zero, List.setIfInBounds_toArray, List.set_cons_zero, List.set_cons_succ, h13] at hK ⊢
      go_simp
      exact hK.out _ _ (Below.refl _ _) rfl
    refine owes_cons (Owes.mk (o := ({ dst := some 25, op := .call { callee := .value (.func 11), args := #[], argTypes := #[] }, type := 4, pos := "law.go:36", after := #[{ on := 14, ground := .chain }, { on := 14, ground := .guard }], guard := some (14, true) } : Oper)) rfl (fun v wk hj hD K hK => ?_)) ?_
    · have h14 : v 14 = (.bool true) := hD 14 (by decide)
      simp only [lt3D, lt3E, putAll, Act.put, List.getD_cons_succ, List.getD_cons_zero, List.setIfInBounds_toArray, List.set_cons_zero, List.set_cons_succ, h14] at hK ⊢
      go_simp
      refine (known_any wk).mono ?_
      rintro e w2 ⟨rfl, hb⟩
      exact hK.out _ _ hb rfl
    refine owes_cons (Owes.mk (o := ({ dst := some 26, op := .pick (.tmp 24) (.tmp 25) (.const (.bool false)), type := 4, pos := "law.go:36", after := #[{ on := 14, ground := .data }, { on := 15, ground := .data }], guard := none } : Oper)) rfl (fun v wk hj hD K hK => ?_)) ?_
    · have h14 : v 14 = (.bool true) := hD 14 (by decide)
      have h15 : v 15 = (.bool true) := hD 15 (by decide)
      simp only [lt3D, lt3E, putAll, Act.put, List.getD_cons_succ, List.getD_cons_zero, List.setIfInBounds_toArray, List.set_cons_zero, List.set_cons_succ, h14, h15] at hK ⊢
      go_simp
      exact hK.out _ _ (Below.refl _ _) rfl
    refine owes_cons (Owes.mk (o := ({ dst := some 4, op := .assign (.tmp 26), type := 4, pos := "law.go:36", after := #[{ on := 16, ground := .data }, { on := 15, ground := .chain }, { on := 0, ground := .phase }, { on := 1, ground := .phase }, { on := 2, ground := .phase }, { on := 3, ground := .phase }, { on := 4, ground := .phase }, { on := 5, ground := .phase }, { on := 6, ground := .phase }, { on := 7, ground := .phase }, { on := 8, ground := .phase }, { on := 9, ground := .phase }, { on := 10, ground := .phase }, { on := 11, ground := .phase }, { on := 12, ground := .phase }, { on := 13, ground := .phase }, { on := 14, ground := .phase }, { on := 15, ground := .phase }, { on := 16, ground := .phase }], guard := none } : Oper)) rfl (fun v wk hj hD K hK => ?_)) ?_
    · have h16 : v 16 = (.bool true) := hD 16 (by decide)
      simp only [lt3D, lt3E, putAll, Act.put, List.getD_cons_succ, List.getD_cons_zero, List.setIfInBounds_toArray, List.set_cons_zero, List.set_cons_succ, h16] at hK ⊢
      go_simp
      exact hK.out _ _ (Below.refl _ _) rfl
    exact owes_nil
  · intro v wf hj hr
    have hl : v 17 = .bool true := hr 17 (by decide)
    simp only [lt3D, putAll, Act.put, List.getD_cons_succ, List.getD_cons_zero, List.setIfInBounds_toArray, List.set_cons_zero, List.set_cons_succ, hl]
    clear hl hr
    have HJ := Lib.hid hj
    clear hj
    go_wp2
    go_ret
    exact ⟨rfl, HJ.out.bel⟩
end Go.Proofs.Ytiiccefnfepccaa
