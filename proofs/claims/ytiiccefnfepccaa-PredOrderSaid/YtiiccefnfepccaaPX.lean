/- PredOrder: the walk. -/
import Derived.Test.YtiiccefnfepccaaPU
namespace Go.Proofs.Ytiiccefnfepccaa
set_option maxRecDepth 100000
open Go.RowKit Go.Sort

theorem t_eq {a : V} (v : V) (ha : okV 12 a = true) : testV (.mk 1 [a] []) v = (cmpV 12 v a == 0) := by
  unfold testV
  rw [ok_one' (by omega) ha 11, holdV, if_pos (by show (1 : Int) = 1 ∨ (1 : Int) = 10; omega)]
  show (true && ((cmpV 12 v a == 0) || false)) = _
  simp
theorem t_neq {a : V} (v : V) (ha : okV 12 a = true) : testV (.mk 2 [a] []) v = !(cmpV 12 v a == 0) := by
  unfold testV
  rw [ok_one' (by omega) ha 11, holdV, if_neg (by show ¬((2 : Int) = 1 ∨ (2 : Int) = 10); omega), if_pos (by show (2 : Int) = 2 ∨ (2 : Int) = 11; omega)]
  show (true && !((cmpV 12 v a == 0) || false)) = _
  simp
/-- Of two kinds, none is the same. -/
theorem cmp_kind {a v : V} (h : ¬ a.k = v.k) : (cmpV 12 v a == 0) = false := by
  refine beq_eq_false_iff_ne.2 (fun e => ?_)
  have e1 : orI (cmpF v a) (orI (rowC (cmpV 11) v.l a.l) (rowC (cmpV 11) v.m a.m)) = 0 := e
  have e2 : cmpF v a = 0 := by
    unfold orI at e1
    split at e1
    · assumption
    · exact e1
  have e3 : cmpI v.k a.k = 0 := by
    unfold cmpF orI at e2
    split at e2
    · assumption
    · exact e2
  unfold cmpI at e3
  split at e3
  · cases e3
  · split at e3
    · cases e3
    · omega
def h13_1D : Nat → Tmp := fun j => [76, 77, 78, 79, 80, 81, 82, 83, 84, 85, 86, 87, 88, 89, 90, 91, 92, 93, 94, 95, 96, 97, 98, 99, 100, 101, 102, 103, 104, 105, 106, 107, 108, 109, 110, 111, 112, 113, 114, 6].getD j 0
def h13_1E : Nat → List Nat := fun j => [[], [0], [1], [2], [2, 3], [2, 4], [5], [6], [6, 7], [6, 8], [9], [10], [10, 11], [10, 12], [13], [14], [14, 15], [14, 16], [17], [18], [18, 19], [18, 20], [21], [22], [22, 23], [22, 24], [25], [26], [26, 27], [26, 28], [29], [30], [30, 31], [30], [30, 32, 33], [30, 34], [35], [36], [36, 37], [38]].getD j []
def h26_2D : Nat → Tmp := fun j => [158, 159, 160, 161, 18].getD j 0
def h26_2E : Nat → List Nat := fun j => [[], [0], [], [1, 2], [3]].getD j []
def h25_3D : Nat → Tmp := fun j => [154, 155, 156, 157, 17].getD j 0
def h25_3E : Nat → List Nat := fun j => [[], [0], [], [1, 2], [3]].getD j []
def h26_4D : Nat → Tmp := fun j => [158, 159, 160, 161, 18].getD j 0
def h26_4E : Nat → List Nat := fun j => [[], [0], [], [1, 2], [3]].getD j []
def h25_5D : Nat → Tmp := fun j => [154, 155, 156, 157, 17].getD j 0
def h25_5E : Nat → List Nat := fun j => [[], [0], [], [1, 2], [3]].getD j []
def h26_6D : Nat → Tmp := fun j => [158, 159, 160, 161, 18].getD j 0
def h26_6E : Nat → List Nat := fun j => [[], [0], [], [1, 2], [3]].getD j []
def h25_7D : Nat → Tmp := fun j => [154, 155, 156, 157, 17].getD j 0
def h25_7E : Nat → List Nat := fun j => [[], [0], [], [1, 2], [3]].getD j []
def h7_8D : Nat → Tmp := fun j => [52, 53, 54, 55, 11].getD j 0
def h7_8E : Nat → List Nat := fun j => [[], [0], [], [1, 2], [3]].getD j []
def h6_9D : Nat → Tmp := fun j => [48, 49, 50, 51, 10].getD j 0
def h6_9E : Nat → List Nat := fun j => [[], [0], [], [1, 2], [3]].getD j []
def h5_10D : Nat → Tmp := fun j => [44, 45, 46, 47, 9].getD j 0
def h5_10E : Nat → List Nat := fun j => [[], [0], [], [1, 2], [3]].getD j []
def h4_11D : Nat → Tmp := fun j => [40, 41, 42, 43, 8].getD j 0
def h4_11E : Nat → List Nat := fun j => [[], [0], [], [1, 2], [3]].getD j []
def h3_12D : Nat → Tmp := fun j => [36, 37, 38, 39, 7].getD j 0
def h3_12E : Nat → List Nat := fun j => [[], [0], [], [1, 2], [3]].getD j []

set_option maxHeartbeats 12800000 in
theorem order_law (w : World) (d : Nat) (a y b : At) (ha : a.In w d) (hy : y.In w d) (hb : b.In w d) : Calls Try.prog 6 #[a.v, y.v, b.v] w fun e w' => e = .returned (.bool true) ∧ Below w.heap.size w w' := by
  have Ia := Lib.hid (ha.up (show d ≤ d + 20 by omega))
  have Iy := Lib.hid (hy.up (show d ≤ d + 20 by omega))
  have Ib := Lib.hid (hb.up (show d ≤ d + 20 by omega))
  clear ha hy hb
  unfold At.v
  go_enter Try.func6, Try.ntmps6
  go_upto_region 1 with fail
  have k0 := PS.addV (PS.start w (d + 20)) a Ia.out
  have k1 := PS.addV k0 y (Iy.out.next (below_new _ _))
  have k2 := PS.addV k1 b (Ib.out.next (below_new2 _ _ _))
  simp only [size_alloc] at k2
  generalize hW : World.alloc (World.alloc (World.alloc _ _) _) _ = W at k2 ⊢
  clear hW k0 k1 Ia Iy Ib
  have K := Lib.hid k2
  clear k2
  obtain ⟨⟨ay0, ay1, ay2, ay3, ay4, _⟩, ia⟩ := K.out.v (w.heap.size, a) (by simp)
  obtain ⟨⟨yy0, yy1, yy2, yy3, yy4, _⟩, iy⟩ := K.out.v (w.heap.size + 1, y) (by simp)
  obtain ⟨⟨by0, by1, by2, by3, by4, _⟩, ib⟩ := K.out.v (w.heap.size + 1 + 1, b) (by simp)
  have hb := below_new W (.cells #[.int .i64 a.t.k, .int .i64 a.t.n, .string a.t.s, .slice a.A a.t.l.length a.c, .slice a.A' a.t.m.length a.c', .int .i64 y.t.k, .int .i64 y.t.n, .string y.t.s, .slice y.A y.t.l.length y.c, .slice y.A' y.t.m.length y.c', .int .i64 b.t.k, .int .i64 b.t.n, .string b.t.s, .slice b.A b.t.l.length b.c, .slice b.A' b.t.m.length b.c'] 27)
  have RO := Lib.hid (row_three W (d + 20) a y b ia iy ib)
  have K1 := Lib.hid (K.out.next hb)
  clear hb ia iy ib
  go_wp2_with fail
  refine (much_any _ (d + 20) (d + 20) ⟨zeroP, none, 0, none, 0⟩ ((zeroP_in _).up (by omega)) _ 3 [a.t, y.t, b.t] RO.out).mono ?_
  rintro e w1 ⟨m, rfl, hb⟩
  have KA := Lib.hid (K1.out.next hb)
  clear ay0 ay1 ay2 ay3 ay4 yy0 yy1 yy2 yy3 yy4 by0 by1 by2 by3 by4 hb K1 RO K
  cases m
  case true =>
    go_wp2_with fail
    refine (known_any w1).mono ?_
    rintro e wk ⟨rfl, hbk⟩
    have BK := Lib.hid (bnext KA.out.bel hbk)
    clear hbk
    go_wp2
    go_ret
    exact ⟨rfl, BK.out⟩
  obtain ⟨⟨ay0, ay1, ay2, ay3, ay4, _⟩, ia⟩ := KA.out.v (w.heap.size, a) (by simp)
  go_wp2_with fail
  refine (refCheck_at w1 (d + 20) a ia).mono ?_
  rintro e w2 ⟨rfl, hb⟩
  have KB0 := Lib.hid (KA.out.next hb)
  clear ay0 ay1 ay2 ay3 ay4 ia hb KA
  cases hk : okV 12 a.t
  case false =>
    go_wp2_with fail
    refine (known_any w2).mono ?_
    rintro e wk ⟨rfl, hbk⟩
    have BK := Lib.hid (bnext KB0.out.bel hbk)
    clear hbk
    go_wp2
    go_ret
    exact ⟨rfl, BK.out⟩
  have Oa := Lib.hid hk
  clear hk
  obtain ⟨⟨by0, by1, by2, by3, by4, _⟩, ib⟩ := KB0.out.v (w.heap.size + 1 + 1, b) (by simp)
  go_wp2_with fail
  refine (refCheck_at w2 (d + 20) b ib).mono ?_
  rintro e w3 ⟨rfl, hb⟩
  have KB1 := Lib.hid (KB0.out.next hb)
  clear by0 by1 by2 by3 by4 ib hb KB0
  cases hk : okV 12 b.t
  case false =>
    go_wp2_with fail
    refine (known_any w3).mono ?_
    rintro e wk ⟨rfl, hbk⟩
    have BK := Lib.hid (bnext KB1.out.bel hbk)
    clear hbk
    go_wp2
    go_ret
    exact ⟨rfl, BK.out⟩
  have Ob := Lib.hid hk
  clear hk
  obtain ⟨p, hp⟩ : ∃ p, p = cmpV 12 y.t a.t := ⟨_, rfl⟩
  obtain ⟨q, hq⟩ : ∃ q, q = cmpV 12 y.t b.t := ⟨_, rfl⟩
  have TP := Lib.hid (show p = -1 ∨ p = 0 ∨ p = 1 by rw [hp]; exact (ord_cmpV 12).tri _ _)
  have TQ := Lib.hid (show q = -1 ∨ q = 0 ∨ q = 1 by rw [hq]; exact (ord_cmpV 12).tri _ _)
  obtain ⟨LT, hLT⟩ : ∃ T, T = testV (.mk 3 [a.t] []) y.t := ⟨_, rfl⟩
  have VLT := Lib.hid hLT.symm
  have ELT := Lib.hid (show LT = ((a.t.k == y.t.k) && relI 3 p p) by rw [hLT, hp]; exact t_rel y.t (by omega) Oa.out)
  obtain ⟨GT, hGT⟩ : ∃ T, T = testV (.mk 5 [a.t] []) y.t := ⟨_, rfl⟩
  have VGT := Lib.hid hGT.symm
  have EGT := Lib.hid (show GT = ((a.t.k == y.t.k) && relI 5 p p) by rw [hGT, hp]; exact t_rel y.t (by omega) Oa.out)
  obtain ⟨EQ, hEQ⟩ : ∃ T, T = testV (.mk 1 [a.t] []) y.t := ⟨_, rfl⟩
  have VEQ := Lib.hid hEQ.symm
  have EEQ := Lib.hid (show EQ = (p == 0) by rw [hEQ, hp]; exact t_eq y.t Oa.out)
  obtain ⟨LE, hLE⟩ : ∃ T, T = testV (.mk 4 [a.t] []) y.t := ⟨_, rfl⟩
  have VLE := Lib.hid hLE.symm
  have ELE := Lib.hid (show LE = ((a.t.k == y.t.k) && relI 4 p p) by rw [hLE, hp]; exact t_rel y.t (by omega) Oa.out)
  obtain ⟨GE, hGE⟩ : ∃ T, T = testV (.mk 6 [a.t] []) y.t := ⟨_, rfl⟩
  have VGE := Lib.hid hGE.symm
  have EGE := Lib.hid (show GE = ((a.t.k == y.t.k) && relI 6 p p) by rw [hGE, hp]; exact t_rel y.t (by omega) Oa.out)
  obtain ⟨BT, hBT⟩ : ∃ T, T = testV (.mk 7 [a.t, b.t] []) y.t := ⟨_, rfl⟩
  have VBT := Lib.hid hBT.symm
  have EBT := Lib.hid (show BT = ((a.t.k == y.t.k) && (b.t.k == y.t.k) && relI 7 p q) by rw [hBT, hp, hq]; exact t_two y.t (by omega) Oa.out Ob.out)
  obtain ⟨IN, hIN⟩ : ∃ T, T = testV (.mk 8 [a.t, b.t] []) y.t := ⟨_, rfl⟩
  have VIN := Lib.hid hIN.symm
  have EIN := Lib.hid (show IN = ((a.t.k == y.t.k) && (b.t.k == y.t.k) && relI 8 p q) by rw [hIN, hp, hq]; exact t_two y.t (by omega) Oa.out Ob.out)
  obtain ⟨OU, hOU⟩ : ∃ T, T = testV (.mk 9 [a.t, b.t] []) y.t := ⟨_, rfl⟩
  have VOU := Lib.hid hOU.symm
  have EOU := Lib.hid (show OU = ((a.t.k == y.t.k) && (b.t.k == y.t.k) && relI 9 p q) by rw [hOU, hp, hq]; exact t_two y.t (by omega) Oa.out Ob.out)
  obtain ⟨LS, hLS⟩ : ∃ T, T = testV (.mk 3 [b.t] []) y.t := ⟨_, rfl⟩
  have VLS := Lib.hid hLS.symm
  have ELS := Lib.hid (show LS = ((b.t.k == y.t.k) && relI 3 q q) by rw [hLS, hq]; exact t_rel y.t (by omega) Ob.out)
  obtain ⟨MO, hMO⟩ : ∃ T, T = testV (.mk 5 [b.t] []) y.t := ⟨_, rfl⟩
  have VMO := Lib.hid hMO.symm
  have EMO := Lib.hid (show MO = ((b.t.k == y.t.k) && relI 5 q q) by rw [hMO, hq]; exact t_rel y.t (by omega) Ob.out)
  obtain ⟨NE, hNE⟩ : ∃ T, T = testV (.mk 2 [a.t] []) y.t := ⟨_, rfl⟩
  have VNE := Lib.hid hNE.symm
  have ENE := Lib.hid (show NE = !(p == 0) by rw [hNE, hp]; exact t_neq y.t Oa.out)
  have NOK := Lib.hid (show ¬ a.t.k = y.t.k → (p == 0) = false by rw [hp]; exact fun h => cmp_kind h)
  clear hp hq hNE hLT hGT hEQ hLE hGE hBT hIN hOU hLS hMO
  go_upto_region 3 with fail
  refine region_phase_all [0, 1, 2, 3, 4] h3_12D h3_12E (fun w' => PS w (d + 20) [] [(w.heap.size + 1 + 1, b), (w.heap.size + 1, y), (w.heap.size, a)] w') (saidOf [Is (a.v), IsPt 1 (.mk 3 [a.t] []), Is (y.v), Is (.bool (LT)), Is (.bool (LT))]) 187 (by rfl) (by kernel_rfl) (by kernel_rfl) (by kernel_rfl) (fun _ _ h hb => h.next hb) (stays_said _ (stays_cons (Is.stays _) (stays_cons (IsPt.stays _ _) (stays_cons (Is.stays _) (stays_cons (Is.stays _) (stays_cons (Is.stays _) stays_nil)))))) (KB1.out.next (below_drewN _ _ 1)) (by kernel_rfl) ?_ ?_
  · skip
    refine owes_cons (Owes.mk (o := ({ dst := some 36, op := .load 27 (.tmp 3), type := 27, pos := "law.go:84", after := #[], guard := none } : Oper)) rfl (fun v wk hj hD K hK => ?_)) ?_
    · simp only [h3_12D, h3_12E, putAll, Act.put, List.getD_cons_zero, List.setIfInBounds_toArray, List.set_cons_zero, List.set_cons_succ] at hK ⊢
      obtain ⟨⟨a0, a1, a2, a3, a4, _⟩, _⟩ := hj.v (w.heap.size, a) (by simp)
      go_simp
      exact hK.out _ _ (Below.refl _ _) rfl
    refine owes_cons (Owes.mk (o := ({ dst := some 37, op := .call { callee := .value (.func 21), args := #[.const (.int .i64 3), .tmp 36], argTypes := #[3, 27] }, type := 25, pos := "law.go:84", after := #[{ on := 0, ground := .data }], guard := none } : Oper)) rfl (fun v wk hj hD K hK => ?_)) ?_
    · have h0 : v 0 = (a.v) := hD 0 (by decide)
      simp only [h3_12D, h3_12E, putAll, Act.put, List.getD_cons_succ, List.getD_cons_zero, List.setIfInBounds_toArray, List.set_cons_zero, List.set_cons_succ, h0] at hK ⊢
      go_simp
      refine (one_any wk (d + 20) 3 (by omega) a (hj.v (w.heap.size, a) (by simp)).2).mono ?_
      rintro e w2 ⟨z, rfl, tz, iz, hb⟩
      exact hK.out _ _ hb ⟨z, rfl, tz, iz⟩
    refine owes_cons (Owes.mk (o := ({ dst := some 38, op := .load 27 (.tmp 4), type := 27, pos := "law.go:84", after := #[], guard := none } : Oper)) rfl (fun v wk hj hD K hK => ?_)) ?_
    · simp only [h3_12D, h3_12E, putAll, Act.put, List.getD_cons_succ, List.getD_cons_zero, List.setIfInBounds_toArray, List.set_cons_zero, List.set_cons_succ] at hK ⊢
      obtain ⟨⟨a0, a1, a2, a3, a4, _⟩, _⟩ := hj.v (w.heap.size + 1, y) (by simp)
      go_simp
      exact hK.out _ _ (Below.refl _ _) rfl
    refine owes_cons (Owes.mk (o := ({ dst := some 39, op := .call { callee := .value (.func 14), args := #[.tmp 37, .tmp 38], argTypes := #[25, 27] }, type := 4, pos := "law.go:84", after := #[{ on := 1, ground := .data }, { on := 2, ground := .data }, { on := 1, ground := .chain }], guard := none } : Oper)) rfl (fun v wk hj hD K hK => ?_)) ?_
    · obtain ⟨q1, h1, t1, r1⟩ : IsPt 1 (.mk 3 [a.t] []) (v 1) wk := hD 1 (by decide)
      have h2 : v 2 = (y.v) := hD 2 (by decide)
      simp only [h3_12D, h3_12E, putAll, Act.put, List.getD_cons_succ, List.getD_cons_zero, List.setIfInBounds_toArray, List.set_cons_zero, List.set_cons_succ, h1, h2] at hK ⊢
      replace t1 := Lib.hid t1
      go_simp
      refine (k_test wk 1 (d + 20) q1 y r1 (hj.v (w.heap.size + 1, y) (by simp)).2 LT (by rw [t1.out]; exact VLT.out)).mono ?_
      rintro e w2 ⟨rfl, hb⟩
      exact hK.out _ _ hb rfl
    refine owes_cons (Owes.mk (o := ({ dst := some 7, op := .assign (.tmp 39), type := 4, pos := "law.go:84", after := #[{ on := 3, ground := .data }, { on := 3, ground := .chain }, { on := 0, ground := .phase }, { on := 1, ground := .phase }, { on := 2, ground := .phase }, { on := 3, ground := .phase }], guard := none } : Oper)) rfl (fun v wk hj hD K hK => ?_)) ?_
    · have h3 : v 3 = (.bool (LT)) := hD 3 (by decide)
      simp only [h3_12D, h3_12E, putAll, Act.put, List.getD_cons_succ, List.getD_cons_zero, List.setIfInBounds_toArray, List.set_cons_zero, List.set_cons_succ, h3] at hK ⊢
      go_simp
      exact hK.out _ _ (Below.refl _ _) rfl
    exact owes_nil
  · intro vf w3 hj hr
    have hl : vf 4 = .bool (LT) := hr 4 (by decide)
    simp only [h3_12D, putAll, Act.put, List.getD_cons_succ, List.getD_cons_zero, List.setIfInBounds_toArray, List.set_cons_zero, List.set_cons_succ, hl]
    clear hl hr
    have Kw3 := Lib.hid hj
    clear hj
    go_upto_region 4 with fail
    refine region_phase_all [0, 1, 2, 3, 4] h4_11D h4_11E (fun w' => PS w (d + 20) [] [(w.heap.size + 1 + 1, b), (w.heap.size + 1, y), (w.heap.size, a)] w') (saidOf [Is (a.v), IsPt 1 (.mk 5 [a.t] []), Is (y.v), Is (.bool (GT)), Is (.bool (GT))]) 187 (by rfl) (by kernel_rfl) (by kernel_rfl) (by kernel_rfl) (fun _ _ h hb => h.next hb) (stays_said _ (stays_cons (Is.stays _) (stays_cons (IsPt.stays _ _) (stays_cons (Is.stays _) (stays_cons (Is.stays _) (stays_cons (Is.stays _) stays_nil)))))) (Kw3.out.next (below_drewN _ _ 1)) (by kernel_rfl) ?_ ?_
    · skip
      refine owes_cons (Owes.mk (o := ({ dst := some 40, op := .load 27 (.tmp 3), type := 27, pos := "law.go:85", after := #[], guard := none } : Oper)) rfl (fun v wk hj hD K hK => ?_)) ?_
      · simp only [h4_11D, h4_11E, putAll, Act.put, List.getD_cons_zero, List.setIfInBounds_toArray, List.set_cons_zero, List.set_cons_succ] at hK ⊢
        obtain ⟨⟨a0, a1, a2, a3, a4, _⟩, _⟩ := hj.v (w.heap.size, a) (by simp)
        go_simp
        exact hK.out _ _ (Below.refl _ _) rfl
      refine owes_cons (Owes.mk (o := ({ dst := some 41, op := .call { callee := .value (.func 21), args := #[.const (.int .i64 5), .tmp 40], argTypes := #[3, 27] }, type := 25, pos := "law.go:85", after := #[{ on := 0, ground := .data }], guard := none } : Oper)) rfl (fun v wk hj hD K hK => ?_)) ?_
      · have h0 : v 0 = (a.v) := hD 0 (by decide)
        simp only [h4_11D, h4_11E, putAll, Act.put, List.getD_cons_succ, List.getD_cons_zero, List.setIfInBounds_toArray, List.set_cons_zero, List.set_cons_succ, h0] at hK ⊢
        go_simp
        refine (one_any wk (d + 20) 5 (by omega) a (hj.v (w.heap.size, a) (by simp)).2).mono ?_
        rintro e w2 ⟨z, rfl, tz, iz, hb⟩
        exact hK.out _ _ hb ⟨z, rfl, tz, iz⟩
      refine owes_cons (Owes.mk (o := ({ dst := some 42, op := .load 27 (.tmp 4), type := 27, pos := "law.go:85", after := #[], guard := none } : Oper)) rfl (fun v wk hj hD K hK => ?_)) ?_
      · simp only [h4_11D, h4_11E, putAll, Act.put, List.getD_cons_succ, List.getD_cons_zero, List.setIfInBounds_toArray, List.set_cons_zero, List.set_cons_succ] at hK ⊢
        obtain ⟨⟨a0, a1, a2, a3, a4, _⟩, _⟩ := hj.v (w.heap.size + 1, y) (by simp)
        go_simp
        exact hK.out _ _ (Below.refl _ _) rfl
      refine owes_cons (Owes.mk (o := ({ dst := some 43, op := .call { callee := .value (.func 14), args := #[.tmp 41, .tmp 42], argTypes := #[25, 27] }, type := 4, pos := "law.go:85", after := #[{ on := 1, ground := .data }, { on := 2, ground := .data }, { on := 1, ground := .chain }], guard := none } : Oper)) rfl (fun v wk hj hD K hK => ?_)) ?_
      · obtain ⟨q1, h1, t1, r1⟩ : IsPt 1 (.mk 5 [a.t] []) (v 1) wk := hD 1 (by decide)
        have h2 : v 2 = (y.v) := hD 2 (by decide)
        simp only [h4_11D, h4_11E, putAll, Act.put, List.getD_cons_succ, List.getD_cons_zero, List.setIfInBounds_toArray, List.set_cons_zero, List.set_cons_succ, h1, h2] at hK ⊢
        replace t1 := Lib.hid t1
        go_simp
        refine (k_test wk 1 (d + 20) q1 y r1 (hj.v (w.heap.size + 1, y) (by simp)).2 GT (by rw [t1.out]; exact VGT.out)).mono ?_
        rintro e w2 ⟨rfl, hb⟩
        exact hK.out _ _ hb rfl
      refine owes_cons (Owes.mk (o := ({ dst := some 8, op := .assign (.tmp 43), type := 4, pos := "law.go:85", after := #[{ on := 3, ground := .data }, { on := 3, ground := .chain }, { on := 0, ground := .phase }, { on := 1, ground := .phase }, { on := 2, ground := .phase }, { on := 3, ground := .phase }], guard := none } : Oper)) rfl (fun v wk hj hD K hK => ?_)) ?_
      · have h3 : v 3 = (.bool (GT)) := hD 3 (by decide)
        simp only [h4_11D, h4_11E, putAll, Act.put, List.getD_cons_succ, List.getD_cons_zero, List.setIfInBounds_toArray, List.set_cons_zero, List.set_cons_succ, h3] at hK ⊢
        go_simp
        exact hK.out _ _ (Below.refl _ _) rfl
      exact owes_nil
    · intro vf w4 hj hr
      have hl : vf 4 = .bool (GT) := hr 4 (by decide)
      simp only [h4_11D, putAll, Act.put, List.getD_cons_succ, List.getD_cons_zero, List.setIfInBounds_toArray, List.set_cons_zero, List.set_cons_succ, hl]
      clear hl hr
      have Kw4 := Lib.hid hj
      clear hj
      go_upto_region 5 with fail
      refine region_phase_all [0, 1, 2, 3, 4] h5_10D h5_10E (fun w' => PS w (d + 20) [] [(w.heap.size + 1 + 1, b), (w.heap.size + 1, y), (w.heap.size, a)] w') (saidOf [Is (a.v), IsPt 1 (.mk 1 [a.t] []), Is (y.v), Is (.bool (EQ)), Is (.bool (EQ))]) 187 (by rfl) (by kernel_rfl) (by kernel_rfl) (by kernel_rfl) (fun _ _ h hb => h.next hb) (stays_said _ (stays_cons (Is.stays _) (stays_cons (IsPt.stays _ _) (stays_cons (Is.stays _) (stays_cons (Is.stays _) (stays_cons (Is.stays _) stays_nil)))))) (Kw4.out.next (below_drewN _ _ 1)) (by kernel_rfl) ?_ ?_
      · skip
        refine owes_cons (Owes.mk (o := ({ dst := some 44, op := .load 27 (.tmp 3), type := 27, pos := "law.go:86", after := #[], guard := none } : Oper)) rfl (fun v wk hj hD K hK => ?_)) ?_
        · simp only [h5_10D, h5_10E, putAll, Act.put, List.getD_cons_zero, List.setIfInBounds_toArray, List.set_cons_zero, List.set_cons_succ] at hK ⊢
          obtain ⟨⟨a0, a1, a2, a3, a4, _⟩, _⟩ := hj.v (w.heap.size, a) (by simp)
          go_simp
          exact hK.out _ _ (Below.refl _ _) rfl
        refine owes_cons (Owes.mk (o := ({ dst := some 45, op := .call { callee := .value (.func 21), args := #[.const (.int .i64 1), .tmp 44], argTypes := #[3, 27] }, type := 25, pos := "law.go:86", after := #[{ on := 0, ground := .data }], guard := none } : Oper)) rfl (fun v wk hj hD K hK => ?_)) ?_
        · have h0 : v 0 = (a.v) := hD 0 (by decide)
          simp only [h5_10D, h5_10E, putAll, Act.put, List.getD_cons_succ, List.getD_cons_zero, List.setIfInBounds_toArray, List.set_cons_zero, List.set_cons_succ, h0] at hK ⊢
          go_simp
          refine (one_any wk (d + 20) 1 (by omega) a (hj.v (w.heap.size, a) (by simp)).2).mono ?_
          rintro e w2 ⟨z, rfl, tz, iz, hb⟩
          exact hK.out _ _ hb ⟨z, rfl, tz, iz⟩
        refine owes_cons (Owes.mk (o := ({ dst := some 46, op := .load 27 (.tmp 4), type := 27, pos := "law.go:86", after := #[], guard := none } : Oper)) rfl (fun v wk hj hD K hK => ?_)) ?_
        · simp only [h5_10D, h5_10E, putAll, Act.put, List.getD_cons_succ, List.getD_cons_zero, List.setIfInBounds_toArray, List.set_cons_zero, List.set_cons_succ] at hK ⊢
          obtain ⟨⟨a0, a1, a2, a3, a4, _⟩, _⟩ := hj.v (w.heap.size + 1, y) (by simp)
          go_simp
          exact hK.out _ _ (Below.refl _ _) rfl
        refine owes_cons (Owes.mk (o := ({ dst := some 47, op := .call { callee := .value (.func 14), args := #[.tmp 45, .tmp 46], argTypes := #[25, 27] }, type := 4, pos := "law.go:86", after := #[{ on := 1, ground := .data }, { on := 2, ground := .data }, { on := 1, ground := .chain }], guard := none } : Oper)) rfl (fun v wk hj hD K hK => ?_)) ?_
        · obtain ⟨q1, h1, t1, r1⟩ : IsPt 1 (.mk 1 [a.t] []) (v 1) wk := hD 1 (by decide)
          have h2 : v 2 = (y.v) := hD 2 (by decide)
          simp only [h5_10D, h5_10E, putAll, Act.put, List.getD_cons_succ, List.getD_cons_zero, List.setIfInBounds_toArray, List.set_cons_zero, List.set_cons_succ, h1, h2] at hK ⊢
          replace t1 := Lib.hid t1
          go_simp
          refine (k_test wk 1 (d + 20) q1 y r1 (hj.v (w.heap.size + 1, y) (by simp)).2 EQ (by rw [t1.out]; exact VEQ.out)).mono ?_
          rintro e w2 ⟨rfl, hb⟩
          exact hK.out _ _ hb rfl
        refine owes_cons (Owes.mk (o := ({ dst := some 9, op := .assign (.tmp 47), type := 4, pos := "law.go:86", after := #[{ on := 3, ground := .data }, { on := 3, ground := .chain }, { on := 0, ground := .phase }, { on := 1, ground := .phase }, { on := 2, ground := .phase }, { on := 3, ground := .phase }], guard := none } : Oper)) rfl (fun v wk hj hD K hK => ?_)) ?_
        · have h3 : v 3 = (.bool (EQ)) := hD 3 (by decide)
          simp only [h5_10D, h5_10E, putAll, Act.put, List.getD_cons_succ, List.getD_cons_zero, List.setIfInBounds_toArray, List.set_cons_zero, List.set_cons_succ, h3] at hK ⊢
          go_simp
          exact hK.out _ _ (Below.refl _ _) rfl
        exact owes_nil
      · intro vf w5 hj hr
        have hl : vf 4 = .bool (EQ) := hr 4 (by decide)
        simp only [h5_10D, putAll, Act.put, List.getD_cons_succ, List.getD_cons_zero, List.setIfInBounds_toArray, List.set_cons_zero, List.set_cons_succ, hl]
        clear hl hr
        have Kw5 := Lib.hid hj
        clear hj
        go_upto_region 6 with fail
        refine region_phase_all [0, 1, 2, 3, 4] h6_9D h6_9E (fun w' => PS w (d + 20) [] [(w.heap.size + 1 + 1, b), (w.heap.size + 1, y), (w.heap.size, a)] w') (saidOf [Is (a.v), IsPt 1 (.mk 4 [a.t] []), Is (y.v), Is (.bool (LE)), Is (.bool (LE))]) 187 (by rfl) (by kernel_rfl) (by kernel_rfl) (by kernel_rfl) (fun _ _ h hb => h.next hb) (stays_said _ (stays_cons (Is.stays _) (stays_cons (IsPt.stays _ _) (stays_cons (Is.stays _) (stays_cons (Is.stays _) (stays_cons (Is.stays _) stays_nil)))))) (Kw5.out.next (below_drewN _ _ 1)) (by kernel_rfl) ?_ ?_
        · skip
          refine owes_cons (Owes.mk (o := ({ dst := some 48, op := .load 27 (.tmp 3), type := 27, pos := "law.go:87", after := #[], guard := none } : Oper)) rfl (fun v wk hj hD K hK => ?_)) ?_
          · simp only [h6_9D, h6_9E, putAll, Act.put, List.getD_cons_zero, List.setIfInBounds_toArray, List.set_cons_zero, List.set_cons_succ] at hK ⊢
            obtain ⟨⟨a0, a1, a2, a3, a4, _⟩, _⟩ := hj.v (w.heap.size, a) (by simp)
            go_simp
            exact hK.out _ _ (Below.refl _ _) rfl
          refine owes_cons (Owes.mk (o := ({ dst := some 49, op := .call { callee := .value (.func 21), args := #[.const (.int .i64 4), .tmp 48], argTypes := #[3, 27] }, type := 25, pos := "law.go:87", after := #[{ on := 0, ground := .data }], guard := none } : Oper)) rfl (fun v wk hj hD K hK => ?_)) ?_
          · have h0 : v 0 = (a.v) := hD 0 (by decide)
            simp only [h6_9D, h6_9E, putAll, Act.put, List.getD_cons_succ, List.getD_cons_zero, List.setIfInBounds_toArray, List.set_cons_zero, List.set_cons_succ, h0] at hK ⊢
            go_simp
            refine (one_any wk (d + 20) 4 (by omega) a (hj.v (w.heap.size, a) (by simp)).2).mono ?_
            rintro e w2 ⟨z, rfl, tz, iz, hb⟩
            exact hK.out _ _ hb ⟨z, rfl, tz, iz⟩
          refine owes_cons (Owes.mk (o := ({ dst := some 50, op := .load 27 (.tmp 4), type := 27, pos := "law.go:87", after := #[], guard := none } : Oper)) rfl (fun v wk hj hD K hK => ?_)) ?_
          · simp only [h6_9D, h6_9E, putAll, Act.put, List.getD_cons_succ, List.getD_cons_zero, List.setIfInBounds_toArray, List.set_cons_zero, List.set_cons_succ] at hK ⊢
            obtain ⟨⟨a0, a1, a2, a3, a4, _⟩, _⟩ := hj.v (w.heap.size + 1, y) (by simp)
            go_simp
            exact hK.out _ _ (Below.refl _ _) rfl
          refine owes_cons (Owes.mk (o := ({ dst := some 51, op := .call { callee := .value (.func 14), args := #[.tmp 49, .tmp 50], argTypes := #[25, 27] }, type := 4, pos := "law.go:87", after := #[{ on := 1, ground := .data }, { on := 2, ground := .data }, { on := 1, ground := .chain }], guard := none } : Oper)) rfl (fun v wk hj hD K hK => ?_)) ?_
          · obtain ⟨q1, h1, t1, r1⟩ : IsPt 1 (.mk 4 [a.t] []) (v 1) wk := hD 1 (by decide)
            have h2 : v 2 = (y.v) := hD 2 (by decide)
            simp only [h6_9D, h6_9E, putAll, Act.put, List.getD_cons_succ, List.getD_cons_zero, List.setIfInBounds_toArray, List.set_cons_zero, List.set_cons_succ, h1, h2] at hK ⊢
            replace t1 := Lib.hid t1
            go_simp
            refine (k_test wk 1 (d + 20) q1 y r1 (hj.v (w.heap.size + 1, y) (by simp)).2 LE (by rw [t1.out]; exact VLE.out)).mono ?_
            rintro e w2 ⟨rfl, hb⟩
            exact hK.out _ _ hb rfl
          refine owes_cons (Owes.mk (o := ({ dst := some 10, op := .assign (.tmp 51), type := 4, pos := "law.go:87", after := #[{ on := 3, ground := .data }, { on := 3, ground := .chain }, { on := 0, ground := .phase }, { on := 1, ground := .phase }, { on := 2, ground := .phase }, { on := 3, ground := .phase }], guard := none } : Oper)) rfl (fun v wk hj hD K hK => ?_)) ?_
          · have h3 : v 3 = (.bool (LE)) := hD 3 (by decide)
            simp only [h6_9D, h6_9E, putAll, Act.put, List.getD_cons_succ, List.getD_cons_zero, List.setIfInBounds_toArray, List.set_cons_zero, List.set_cons_succ, h3] at hK ⊢
            go_simp
            exact hK.out _ _ (Below.refl _ _) rfl
          exact owes_nil
        · intro vf w6 hj hr
          have hl : vf 4 = .bool (LE) := hr 4 (by decide)
          simp only [h6_9D, putAll, Act.put, List.getD_cons_succ, List.getD_cons_zero, List.setIfInBounds_toArray, List.set_cons_zero, List.set_cons_succ, hl]
          clear hl hr
          have Kw6 := Lib.hid hj
          clear hj
          go_upto_region 7 with fail
          refine region_phase_all [0, 1, 2, 3, 4] h7_8D h7_8E (fun w' => PS w (d + 20) [] [(w.heap.size + 1 + 1, b), (w.heap.size + 1, y), (w.heap.size, a)] w') (saidOf [Is (a.v), IsPt 1 (.mk 6 [a.t] []), Is (y.v), Is (.bool (GE)), Is (.bool (GE))]) 187 (by rfl) (by kernel_rfl) (by kernel_rfl) (by kernel_rfl) (fun _ _ h hb => h.next hb) (stays_said _ (stays_cons (Is.stays _) (stays_cons (IsPt.stays _ _) (stays_cons (Is.stays _) (stays_cons (Is.stays _) (stays_cons (Is.stays _) stays_nil)))))) (Kw6.out.next (below_drewN _ _ 1)) (by kernel_rfl) ?_ ?_
          · skip
            refine owes_cons (Owes.mk (o := ({ dst := some 52, op := .load 27 (.tmp 3), type := 27, pos := "law.go:88", after := #[], guard := none } : Oper)) rfl (fun v wk hj hD K hK => ?_)) ?_
            · simp only [h7_8D, h7_8E, putAll, Act.put, List.getD_cons_zero, List.setIfInBounds_toArray, List.set_cons_zero, List.set_cons_succ] at hK ⊢
              obtain ⟨⟨a0, a1, a2, a3, a4, _⟩, _⟩ := hj.v (w.heap.size, a) (by simp)
              go_simp
              exact hK.out _ _ (Below.refl _ _) rfl
            refine owes_cons (Owes.mk (o := ({ dst := some 53, op := .call { callee := .value (.func 21), args := #[.const (.int .i64 6), .tmp 52], argTypes := #[3, 27] }, type := 25, pos := "law.go:88", after := #[{ on := 0, ground := .data }], guard := none } : Oper)) rfl (fun v wk hj hD K hK => ?_)) ?_
            · have h0 : v 0 = (a.v) := hD 0 (by decide)
              simp only [h7_8D, h7_8E, putAll, Act.put, List.getD_cons_succ, List.getD_cons_zero, List.setIfInBounds_toArray, List.set_cons_zero, List.set_cons_succ, h0] at hK ⊢
              go_simp
              refine (one_any wk (d + 20) 6 (by omega) a (hj.v (w.heap.size, a) (by simp)).2).mono ?_
              rintro e w2 ⟨z, rfl, tz, iz, hb⟩
              exact hK.out _ _ hb ⟨z, rfl, tz, iz⟩
            refine owes_cons (Owes.mk (o := ({ dst := some 54, op := .load 27 (.tmp 4), type := 27, pos := "law.go:88", after := #[], guard := none } : Oper)) rfl (fun v wk hj hD K hK => ?_)) ?_
            · simp only [h7_8D, h7_8E, putAll, Act.put, List.getD_cons_succ, List.getD_cons_zero, List.setIfInBounds_toArray, List.set_cons_zero, List.set_cons_succ] at hK ⊢
              obtain ⟨⟨a0, a1, a2, a3, a4, _⟩, _⟩ := hj.v (w.heap.size + 1, y) (by simp)
              go_simp
              exact hK.out _ _ (Below.refl _ _) rfl
            refine owes_cons (Owes.mk (o := ({ dst := some 55, op := .call { callee := .value (.func 14), args := #[.tmp 53, .tmp 54], argTypes := #[25, 27] }, type := 4, pos := "law.go:88", after := #[{ on := 1, ground := .data }, { on := 2, ground := .data }, { on := 1, ground := .chain }], guard := none } : Oper)) rfl (fun v wk hj hD K hK => ?_)) ?_
            · obtain ⟨q1, h1, t1, r1⟩ : IsPt 1 (.mk 6 [a.t] []) (v 1) wk := hD 1 (by decide)
              have h2 : v 2 = (y.v) := hD 2 (by decide)
              simp only [h7_8D, h7_8E, putAll, Act.put, List.getD_cons_succ, List.getD_cons_zero, List.setIfInBounds_toArray, List.set_cons_zero, List.set_cons_succ, h1, h2] at hK ⊢
              replace t1 := Lib.hid t1
              go_simp
              refine (k_test wk 1 (d + 20) q1 y r1 (hj.v (w.heap.size + 1, y) (by simp)).2 GE (by rw [t1.out]; exact VGE.out)).mono ?_
              rintro e w2 ⟨rfl, hb⟩
              exact hK.out _ _ hb rfl
            refine owes_cons (Owes.mk (o := ({ dst := some 11, op := .assign (.tmp 55), type := 4, pos := "law.go:88", after := #[{ on := 3, ground := .data }, { on := 3, ground := .chain }, { on := 0, ground := .phase }, { on := 1, ground := .phase }, { on := 2, ground := .phase }, { on := 3, ground := .phase }], guard := none } : Oper)) rfl (fun v wk hj hD K hK => ?_)) ?_
            · have h3 : v 3 = (.bool (GE)) := hD 3 (by decide)
              simp only [h7_8D, h7_8E, putAll, Act.put, List.getD_cons_succ, List.getD_cons_zero, List.setIfInBounds_toArray, List.set_cons_zero, List.set_cons_succ, h3] at hK ⊢
              go_simp
              exact hK.out _ _ (Below.refl _ _) rfl
            exact owes_nil
          · intro vf w7 hj hr
            have hl : vf 4 = .bool (GE) := hr 4 (by decide)
            simp only [h7_8D, putAll, Act.put, List.getD_cons_succ, List.getD_cons_zero, List.setIfInBounds_toArray, List.set_cons_zero, List.set_cons_succ, hl]
            clear hl hr
            have Kw7 := Lib.hid hj
            clear hj
            obtain ⟨⟨ay0, ay1, ay2, ay3, ay4, _⟩, ia⟩ := Kw7.out.v (w.heap.size, a) (by simp)
            obtain ⟨⟨by0, by1, by2, by3, by4, _⟩, ib⟩ := Kw7.out.v (w.heap.size + 1 + 1, b) (by simp)
            have hb := below_new w7 (.cells #[.int .i64 a.t.k, .int .i64 a.t.n, .string a.t.s, .slice a.A a.t.l.length a.c, .slice a.A' a.t.m.length a.c', .int .i64 b.t.k, .int .i64 b.t.n, .string b.t.s, .slice b.A b.t.l.length b.c, .slice b.A' b.t.m.length b.c'] 27)
            have RO := Lib.hid (row_two' w7 (d + 20) a b ia ib)
            have K2 := Lib.hid (Kw7.out.next hb)
            clear hb ia ib
            go_upto_region 9 with fail
            generalize hV : World.alloc w7 _ = w8 at RO K2 ⊢
            clear hV ay0 ay1 ay2 ay3 ay4 by0 by1 by2 by3 by4
            generalize w7.heap.size = gt at *
            obtain ⟨⟨yy0, yy1, yy2, yy3, yy4, _⟩, iy⟩ := K2.out.v (w.heap.size + 1, y) (by simp)
            go_wp2_with fail
            refine (test_any w8 1 (d + 20) ⟨.mk 7 [a.t, b.t] [], some ⟨gt, 0, none⟩, 2, none, 0⟩ y (two_in (by omega) RO.out) iy).mono ?_
            rintro e x0 ⟨rfl, hb⟩
            rw [VBT.out]
            replace RO := Lib.hid (RO.out.next hb)
            have L0 := Lib.hid (K2.out.next hb)
            clear yy0 yy1 yy2 yy3 yy4 iy hb K2
            obtain ⟨⟨yy0, yy1, yy2, yy3, yy4, _⟩, iy⟩ := L0.out.v (w.heap.size + 1, y) (by simp)
            go_wp2_with fail
            refine (test_any x0 1 (d + 20) ⟨.mk 8 [a.t, b.t] [], some ⟨gt, 0, none⟩, 2, none, 0⟩ y (two_in (by omega) RO.out) iy).mono ?_
            rintro e x1 ⟨rfl, hb⟩
            rw [VIN.out]
            replace RO := Lib.hid (RO.out.next hb)
            have L1 := Lib.hid (L0.out.next hb)
            clear yy0 yy1 yy2 yy3 yy4 iy hb L0
            obtain ⟨⟨yy0, yy1, yy2, yy3, yy4, _⟩, iy⟩ := L1.out.v (w.heap.size + 1, y) (by simp)
            go_wp2_with fail
            refine (test_any x1 1 (d + 20) ⟨.mk 9 [a.t, b.t] [], some ⟨gt, 0, none⟩, 2, none, 0⟩ y (two_in (by omega) RO.out) iy).mono ?_
            rintro e x2 ⟨rfl, hb⟩
            rw [VOU.out]
            replace RO := Lib.hid (RO.out.next hb)
            have L2 := Lib.hid (L1.out.next hb)
            clear yy0 yy1 yy2 yy3 yy4 iy hb L1
            clear RO
            obtain ⟨⟨ay0, ay1, ay2, ay3, ay4, _⟩, _⟩ := L2.out.v (w.heap.size, a) (by simp)
            obtain ⟨⟨yy0, yy1, yy2, yy3, yy4, _⟩, _⟩ := L2.out.v (w.heap.size + 1, y) (by simp)
            by_cases hk : a.t.k = y.t.k
            case neg =>
              have n1 : (a.t.k != y.t.k) = true := by rw [bne_not, beq_eq_false_iff_ne.2 hk]; rfl
              have n0 : (a.t.k == y.t.k) = false := beq_eq_false_iff_ne.2 hk
              have nz := NOK.out hk
              have eLT : LT = false := by rw [ELT.out, n0]; rfl
              have eGT : GT = false := by rw [EGT.out, n0]; rfl
              have eLE : LE = false := by rw [ELE.out, n0]; rfl
              have eGE : GE = false := by rw [EGE.out, n0]; rfl
              have eEQ : EQ = false := by rw [EEQ.out]; exact nz
              have eNE : NE = true := by rw [ENE.out, nz]; rfl
              have eBT : BT = false := by rw [EBT.out, n0]; rfl
              have eIN : IN = false := by rw [EIN.out, n0]; rfl
              have eOU : OU = false := by rw [EOU.out, n0]; rfl
              subst eLT
              subst eGT
              subst eEQ
              subst eLE
              subst eGE
              subst eBT
              subst eIN
              subst eOU
              subst eNE
              clear hk nz n0
              obtain ⟨⟨ay0, ay1, ay2, ay3, ay4, _⟩, _⟩ := L2.out.v (w.heap.size, a) (by simp)
              obtain ⟨⟨yy0, yy1, yy2, yy3, yy4, _⟩, _⟩ := L2.out.v (w.heap.size + 1, y) (by simp)
              go_upto_region 13 with fail
              clear ay0 ay1 ay2 ay3 ay4 yy0 yy1 yy2 yy3 yy4
              refine region_phase_all [0, 1, 2, 3, 4, 5, 6, 7, 8, 9, 10, 11, 12, 13, 14, 15, 16, 17, 18, 19, 20, 21, 22, 23, 24, 25, 26, 27, 28, 29, 30, 31, 32, 33, 34, 35, 36, 37, 38, 39] h13_1D h13_1E (fun w' => PS w (d + 20) [] [(w.heap.size + 1 + 1, b), (w.heap.size + 1, y), (w.heap.size, a)] w') (saidOf [Is (.bool (false)), Is (.bool true), Is (.bool true), Is (.bool (false)), Is (.bool true), Is (.bool true), Is (.bool true), Is (.bool (false)), Is (.bool true), Is (.bool true), Is (.bool true), Is (.bool (false)), Is (.bool true), Is (.bool true), Is (.bool true), Is (.bool (false)), Is (.bool true), Is (.bool true), Is (.bool true), Is (.bool (false)), Is (.bool true), Is (.bool true), Is (.bool true), Is (.bool (false)), Is (.bool true), Is (.bool true), Is (.bool true), Is (.bool (false)), Is (.bool true), Is (.bool true), Is (.bool true), Is (a.v), IsPt 1 (.mk 2 [a.t] []), Is (y.v), Is (.bool true), Is (.bool true), Is (.bool true), Is (.bool true), Is (.bool true), Is (.bool true)]) 187 (by rfl) (by kernel_rfl) (by kernel_rfl) (by kernel_rfl) (fun _ _ h hb => h.next hb) (stays_said _ (stays_cons (Is.stays _) (stays_cons (Is.stays _) (stays_cons (Is.stays _) (stays_cons (Is.stays _) (stays_cons (Is.stays _) (stays_cons (Is.stays _) (stays_cons (Is.stays _) (stays_cons (Is.stays _) (stays_cons (Is.stays _) (stays_cons (Is.stays _) (stays_cons (Is.stays _) (stays_cons (Is.stays _) (stays_cons (Is.stays _) (stays_cons (Is.stays _) (stays_cons (Is.stays _) (stays_cons (Is.stays _) (stays_cons (Is.stays _) (stays_cons (Is.stays _) (stays_cons (Is.stays _) (stays_cons (Is.stays _) (stays_cons (Is.stays _) (stays_cons (Is.stays _) (stays_cons (Is.stays _) (stays_cons (Is.stays _) (stays_cons (Is.stays _) (stays_cons (Is.stays _) (stays_cons (Is.stays _) (stays_cons (Is.stays _) (stays_cons (Is.stays _) (stays_cons (Is.stays _) (stays_cons (Is.stays _) (stays_cons (Is.stays _) (stays_cons (IsPt.stays _ _) (stays_cons (Is.stays _) (stays_cons (Is.stays _) (stays_cons (Is.stays _) (stays_cons (Is.stays _) (stays_cons (Is.stays _) (stays_cons (Is.stays _) (stays_cons (Is.stays _) stays_nil))))))))))))))))))))))))))))))))))))))))) (L2.out.next (below_drewN _ _ 1)) (by kernel_rfl) ?_ ?_
              · skip
                refine owes_cons (Owes.mk (o := ({ dst := some 76, op := .move (.tmp 7), type := 4, pos := "law.go:94", after := #[], guard := none } : Oper)) rfl (fun v wk hj hD K hK => ?_)) ?_
                · simp only [h13_1D, h13_1E, putAll, Act.put, List.getD_cons_zero, List.setIfInBounds_toArray, List.set_cons_zero, List.set_cons_succ] at hK ⊢
                  go_simp
                  exact hK.out _ _ (Below.refl _ _) rfl
                refine owes_cons (Owes.mk (o := ({ dst := some 77, op := .unOp Go.UnOp.not 4 (.tmp 76), type := 4, pos := "law.go:94", after := #[{ on := 0, ground := .data }], guard := none } : Oper)) rfl (fun v wk hj hD K hK => ?_)) ?_
                · have h0 : v 0 = (.bool (false)) := hD 0 (by decide)
                  simp only [h13_1D, h13_1E, putAll, Act.put, List.getD_cons_succ, List.getD_cons_zero, List.setIfInBounds_toArray, List.set_cons_zero, List.set_cons_succ, h0] at hK ⊢
                  go_simp
                  exact hK.out _ _ (Below.refl _ _) rfl
                refine owes_cons (Owes.mk (o := ({ dst := some 78, op := .move (.tmp 77), type := 4, pos := "law.go:94", after := #[{ on := 1, ground := .data }], guard := none } : Oper)) rfl (fun v wk hj hD K hK => ?_)) ?_
                · have h1 : v 1 = (.bool true) := hD 1 (by decide)
                  simp only [h13_1D, h13_1E, putAll, Act.put, List.getD_cons_succ, List.getD_cons_zero, List.setIfInBounds_toArray, List.set_cons_zero, List.set_cons_succ, h1] at hK ⊢
                  go_simp
                  exact hK.out _ _ (Below.refl _ _) rfl
                refine owes_cons (Owes.mk (o := ({ dst := some 79, op := .move (.tmp 8), type := 4, pos := "law.go:94", after := #[{ on := 2, ground := .guard }], guard := some (2, true) } : Oper)) rfl (fun v wk hj hD K hK => ?_)) ?_
                · have h2 : v 2 = (.bool true) := hD 2 (by decide)
                  simp only [h13_1D, h13_1E, putAll, Act.put, List.getD_cons_succ, List.getD_cons_zero, List.setIfInBounds_toArray, List.set_cons_zero, List.set_cons_succ, h2] at hK ⊢
                  go_simp
                  exact hK.out _ _ (Below.refl _ _) rfl
                refine owes_cons (Owes.mk (o := ({ dst := some 80, op := .unOp Go.UnOp.not 4 (.tmp 79), type := 4, pos := "law.go:94", after := #[{ on := 3, ground := .data }, { on := 2, ground := .guard }], guard := some (2, true) } : Oper)) rfl (fun v wk hj hD K hK => ?_)) ?_
                · have h2 : v 2 = (.bool true) := hD 2 (by decide)
                  have h3 : v 3 = (.bool (false)) := hD 3 (by decide)
                  simp only [h13_1D, h13_1E, putAll, Act.put, List.getD_cons_succ, List.getD_cons_zero, List.setIfInBounds_toArray, List.set_cons_zero, List.set_cons_succ, h2, h3] at hK ⊢
                  go_simp
                  exact hK.out _ _ (Below.refl _ _) rfl
                refine owes_cons (Owes.mk (o := ({ dst := some 81, op := .pick (.tmp 78) (.tmp 80) (.const (.bool false)), type := 4, pos := "law.go:94", after := #[{ on := 2, ground := .data }, { on := 4, ground := .data }], guard := none } : Oper)) rfl (fun v wk hj hD K hK => ?_)) ?_
                · have h2 : v 2 = (.bool true) := hD 2 (by decide)
                  have h4 : v 4 = (.bool true) := hD 4 (by decide)
                  simp only [h13_1D, h13_1E, putAll, Act.put, List.getD_cons_succ, List.getD_cons_zero, List.setIfInBounds_toArray, List.set_cons_zero, List.set_cons_succ, h2, h4] at hK ⊢
                  go_simp
                  exact hK.out _ _ (Below.refl _ _) rfl
                refine owes_cons (Owes.mk (o := ({ dst := some 82, op := .move (.tmp 81), type := 4, pos := "law.go:94", after := #[{ on := 5, ground := .data }, { on := 2, ground := .chain }], guard := none } : Oper)) rfl (fun v wk hj hD K hK => ?_)) ?_
                · have h5 : v 5 = (.bool true) := hD 5 (by decide)
                  simp only [h13_1D, h13_1E, putAll, Act.put, List.getD_cons_succ, List.getD_cons_zero, List.setIfInBounds_toArray, List.set_cons_zero, List.set_cons_succ, h5] at hK ⊢
                  go_simp
                  exact hK.out _ _ (Below.refl _ _) rfl
                refine owes_cons (Owes.mk (o := ({ dst := some 83, op := .move (.tmp 9), type := 4, pos := "law.go:94", after := #[{ on := 6, ground := .guard }], guard := some (6, true) } : Oper)) rfl (fun v wk hj hD K hK => ?_)) ?_
                · have h6 : v 6 = (.bool true) := hD 6 (by decide)
                  simp only [h13_1D, h13_1E, putAll, Act.put, List.getD_cons_succ, List.getD_cons_zero, List.setIfInBounds_toArray, List.set_cons_zero, List.set_cons_succ, h6] at hK ⊢
                  go_simp
                  exact hK.out _ _ (Below.refl _ _) rfl
                refine owes_cons (Owes.mk (o := ({ dst := some 84, op := .unOp Go.UnOp.not 4 (.tmp 83), type := 4, pos := "law.go:94", after := #[{ on := 7, ground := .data }, { on := 6, ground := .guard }], guard := some (6, true) } : Oper)) rfl (fun v wk hj hD K hK => ?_)) ?_
                · have h6 : v 6 = (.bool true) := hD 6 (by decide)
                  have h7 : v 7 = (.bool (false)) := hD 7 (by decide)
                  simp only [h13_1D, h13_1E, putAll, Act.put, List.getD_cons_succ, List.getD_cons_zero, List.setIfInBounds_toArray, List.set_cons_zero, List.set_cons_succ, h6, h7] at hK ⊢
                  go_simp
                  exact hK.out _ _ (Below.refl _ _) rfl
                refine owes_cons (Owes.mk (o := ({ dst := some 85, op := .pick (.tmp 82) (.tmp 84) (.const (.bool false)), type := 4, pos := "law.go:94", after := #[{ on := 6, ground := .data }, { on := 8, ground := .data }], guard := none } : Oper)) rfl (fun v wk hj hD K hK => ?_)) ?_
                · have h6 : v 6 = (.bool true) := hD 6 (by decide)
                  have h8 : v 8 = (.bool true) := hD 8 (by decide)
                  simp only [h13_1D, h13_1E, putAll, Act.put, List.getD_cons_succ, List.getD_cons_zero, List.setIfInBounds_toArray, List.set_cons_zero, List.set_cons_succ, h6, h8] at hK ⊢
                  go_simp
                  exact hK.out _ _ (Below.refl _ _) rfl
                refine owes_cons (Owes.mk (o := ({ dst := some 86, op := .move (.tmp 85), type := 4, pos := "law.go:94", after := #[{ on := 9, ground := .data }, { on := 6, ground := .chain }], guard := none } : Oper)) rfl (fun v wk hj hD K hK => ?_)) ?_
                · have h9 : v 9 = (.bool true) := hD 9 (by decide)
                  simp only [h13_1D, h13_1E, putAll, Act.put, List.getD_cons_succ, List.getD_cons_zero, List.setIfInBounds_toArray, List.set_cons_zero, List.set_cons_succ, h9] at hK ⊢
                  go_simp
                  exact hK.out _ _ (Below.refl _ _) rfl
                refine owes_cons (Owes.mk (o := ({ dst := some 87, op := .move (.tmp 10), type := 4, pos := "law.go:94", after := #[{ on := 10, ground := .guard }], guard := some (10, true) } : Oper)) rfl (fun v wk hj hD K hK => ?_)) ?_
                · have h10 : v 10 = (.bool true) := hD 10 (by decide)
                  simp only [h13_1D, h13_1E, putAll, Act.put, List.getD_cons_succ, List.getD_cons_zero, List.setIfInBounds_toArray, List.set_cons_zero, List.set_cons_succ, h10] at hK ⊢
                  go_simp
                  exact hK.out _ _ (Below.refl _ _) rfl
                refine owes_cons (Owes.mk (o := ({ dst := some 88, op := .unOp Go.UnOp.not 4 (.tmp 87), type := 4, pos := "law.go:94", after := #[{ on := 11, ground := .data }, { on := 10, ground := .guard }], guard := some (10, true) } : Oper)) rfl (fun v wk hj hD K hK => ?_)) ?_
                · have h10 : v 10 = (.bool true) := hD 10 (by decide)
                  have h11 : v 11 = (.bool (false)) := hD 11 (by decide)
                  simp only [h13_1D, h13_1E, putAll, Act.put, List.getD_cons_succ, List.getD_cons_zero, List.setIfInBounds_toArray, List.set_cons_zero, List.set_cons_succ, h10, h11] at hK ⊢
                  go_simp
                  exact hK.out _ _ (Below.refl _ _) rfl
                refine owes_cons (Owes.mk (o := ({ dst := some 89, op := .pick (.tmp 86) (.tmp 88) (.const (.bool false)), type := 4, pos := "law.go:94", after := #[{ on := 10, ground := .data }, { on := 12, ground := .data }], guard := none } : Oper)) rfl (fun v wk hj hD K hK => ?_)) ?_
                · have h10 : v 10 = (.bool true) := hD 10 (by decide)
                  have h12 : v 12 = (.bool true) := hD 12 (by decide)
                  simp only [h13_1D, h13_1E, putAll, Act.put, List.getD_cons_succ, List.getD_cons_zero, List.setIfInBounds_toArray, List.set_cons_zero, List.set_cons_succ, h10, h12] at hK ⊢
                  go_simp
                  exact hK.out _ _ (Below.refl _ _) rfl
                refine owes_cons (Owes.mk (o := ({ dst := some 90, op := .move (.tmp 89), type := 4, pos := "law.go:94", after := #[{ on := 13, ground := .data }, { on := 10, ground := .chain }], guard := none } : Oper)) rfl (fun v wk hj hD K hK => ?_)) ?_
                · have h13 : v 13 = (.bool true) := hD 13 (by decide)
                  simp only [h13_1D, h13_1E, putAll, Act.put, List.getD_cons_succ, List.getD_cons_zero, List.setIfInBounds_toArray, List.set_cons_zero, List.set_cons_succ, h13] at hK ⊢
                  go_simp
                  exact hK.out _ _ (Below.refl _ _) rfl
                refine owes_cons (Owes.mk (o := ({ dst := some 91, op := .move (.tmp 11), type := 4, pos := "law.go:94", after := #[{ on := 14, ground := .guard }], guard := some (14, true) } : Oper)) rfl (fun v wk hj hD K hK => ?_)) ?_
                · have h14 : v 14 = (.bool true) := hD 14 (by decide)
                  simp only [h13_1D, h13_1E, putAll, Act.put, List.getD_cons_succ, List.getD_cons_zero, List.setIfInBounds_toArray, List.set_cons_zero, List.set_cons_succ, h14] at hK ⊢
                  go_simp
                  exact hK.out _ _ (Below.refl _ _) rfl
                refine owes_cons (Owes.mk (o := ({ dst := some 92, op := .unOp Go.UnOp.not 4 (.tmp 91), type := 4, pos := "law.go:94", after := #[{ on := 15, ground := .data }, { on := 14, ground := .guard }], guard := some (14, true) } : Oper)) rfl (fun v wk hj hD K hK => ?_)) ?_
                · have h14 : v 14 = (.bool true) := hD 14 (by decide)
                  have h15 : v 15 = (.bool (false)) := hD 15 (by decide)
                  simp only [h13_1D, h13_1E, putAll, Act.put, List.getD_cons_succ, List.getD_cons_zero, List.setIfInBounds_toArray, List.set_cons_zero, List.set_cons_succ, h14, h15] at hK ⊢
                  go_simp
                  exact hK.out _ _ (Below.refl _ _) rfl
                refine owes_cons (Owes.mk (o := ({ dst := some 93, op := .pick (.tmp 90) (.tmp 92) (.const (.bool false)), type := 4, pos := "law.go:94", after := #[{ on := 14, ground := .data }, { on := 16, ground := .data }], guard := none } : Oper)) rfl (fun v wk hj hD K hK => ?_)) ?_
                · have h14 : v 14 = (.bool true) := hD 14 (by decide)
                  have h16 : v 16 = (.bool true) := hD 16 (by decide)
                  simp only [h13_1D, h13_1E, putAll, Act.put, List.getD_cons_succ, List.getD_cons_zero, List.setIfInBounds_toArray, List.set_cons_zero, List.set_cons_succ, h14, h16] at hK ⊢
                  go_simp
                  exact hK.out _ _ (Below.refl _ _) rfl
                refine owes_cons (Owes.mk (o := ({ dst := some 94, op := .move (.tmp 93), type := 4, pos := "law.go:94", after := #[{ on := 17, ground := .data }, { on := 14, ground := .chain }], guard := none } : Oper)) rfl (fun v wk hj hD K hK => ?_)) ?_
                · have h17 : v 17 = (.bool true) := hD 17 (by decide)
                  simp only [h13_1D, h13_1E, putAll, Act.put, List.getD_cons_succ, List.getD_cons_zero, List.setIfInBounds_toArray, List.set_cons_zero, List.set_cons_succ, h17] at hK ⊢
                  go_simp
                  exact hK.out _ _ (Below.refl _ _) rfl
                refine owes_cons (Owes.mk (o := ({ dst := some 95, op := .move (.tmp 13), type := 4, pos := "law.go:94", after := #[{ on := 18, ground := .guard }], guard := some (18, true) } : Oper)) rfl (fun v wk hj hD K hK => ?_)) ?_
                · have h18 : v 18 = (.bool true) := hD 18 (by decide)
                  simp only [h13_1D, h13_1E, putAll, Act.put, List.getD_cons_succ, List.getD_cons_zero, List.setIfInBounds_toArray, List.set_cons_zero, List.set_cons_succ, h18] at hK ⊢
                  go_simp
                  exact hK.out _ _ (Below.refl _ _) rfl
                refine owes_cons (Owes.mk (o := ({ dst := some 96, op := .unOp Go.UnOp.not 4 (.tmp 95), type := 4, pos := "law.go:94", after := #[{ on := 19, ground := .data }, { on := 18, ground := .guard }], guard := some (18, true) } : Oper)) rfl (fun v wk hj hD K hK => ?_)) ?_
                · have h18 : v 18 = (.bool true) := hD 18 (by decide)
                  have h19 : v 19 = (.bool (false)) := hD 19 (by decide)
                  simp only [h13_1D, h13_1E, putAll, Act.put, List.getD_cons_succ, List.getD_cons_zero, List.setIfInBounds_toArray, List.set_cons_zero, List.set_cons_succ, h18, h19] at hK ⊢
                  go_simp
                  exact hK.out _ _ (Below.refl _ _) rfl
                refine owes_cons (Owes.mk (o := ({ dst := some 97, op := .pick (.tmp 94) (.tmp 96) (.const (.bool false)), type := 4, pos := "law.go:94", after := #[{ on := 18, ground := .data }, { on := 20, ground := .data }], guard := none } : Oper)) rfl (fun v wk hj hD K hK => ?_)) ?_
                · have h18 : v 18 = (.bool true) := hD 18 (by decide)
                  have h20 : v 20 = (.bool true) := hD 20 (by decide)
                  simp only [h13_1D, h13_1E, putAll, Act.put, List.getD_cons_succ, List.getD_cons_zero, List.setIfInBounds_toArray, List.set_cons_zero, List.set_cons_succ, h18, h20] at hK ⊢
                  go_simp
                  exact hK.out _ _ (Below.refl _ _) rfl
                refine owes_cons (Owes.mk (o := ({ dst := some 98, op := .move (.tmp 97), type := 4, pos := "law.go:94", after := #[{ on := 21, ground := .data }, { on := 18, ground := .chain }], guard := none } : Oper)) rfl (fun v wk hj hD K hK => ?_)) ?_
                · have h21 : v 21 = (.bool true) := hD 21 (by decide)
                  simp only [h13_1D, h13_1E, putAll, Act.put, List.getD_cons_succ, List.getD_cons_zero, List.setIfInBounds_toArray, List.set_cons_zero, List.set_cons_succ, h21] at hK ⊢
                  go_simp
                  exact hK.out _ _ (Below.refl _ _) rfl
                refine owes_cons (Owes.mk (o := ({ dst := some 99, op := .move (.tmp 14), type := 4, pos := "law.go:94", after := #[{ on := 22, ground := .guard }], guard := some (22, true) } : Oper)) rfl (fun v wk hj hD K hK => ?_)) ?_
                · have h22 : v 22 = (.bool true) := hD 22 (by decide)
                  simp only [h13_1D, h13_1E, putAll, Act.put, List.getD_cons_succ, List.getD_cons_zero, List.setIfInBounds_toArray, List.set_cons_zero, List.set_cons_succ, h22] at hK ⊢
                  go_simp
                  exact hK.out _ _ (Below.refl _ _) rfl
                refine owes_cons (Owes.mk (o := ({ dst := some 100, op := .unOp Go.UnOp.not 4 (.tmp 99), type := 4, pos := "law.go:94", after := #[{ on := 23, ground := .data }, { on := 22, ground := .guard }], guard := some (22, true) } : Oper)) rfl (fun v wk hj hD K hK => ?_)) ?_
                · have h22 : v 22 = (.bool true) := hD 22 (by decide)
                  have h23 : v 23 = (.bool (false)) := hD 23 (by decide)
                  simp only [h13_1D, h13_1E, putAll, Act.put, List.getD_cons_succ, List.getD_cons_zero, List.setIfInBounds_toArray, List.set_cons_zero, List.set_cons_succ, h22, h23] at hK ⊢
                  go_simp
                  exact hK.out _ _ (Below.refl _ _) rfl
                refine owes_cons (Owes.mk (o := ({ dst := some 101, op := .pick (.tmp 98) (.tmp 100) (.const (.bool false)), type := 4, pos := "law.go:94", after := #[{ on := 22, ground := .data }, { on := 24, ground := .data }], guard := none } : Oper)) rfl (fun v wk hj hD K hK => ?_)) ?_
                · have h22 : v 22 = (.bool true) := hD 22 (by decide)
                  have h24 : v 24 = (.bool true) := hD 24 (by decide)
                  simp only [h13_1D, h13_1E, putAll, Act.put, List.getD_cons_succ, List.getD_cons_zero, List.setIfInBounds_toArray, List.set_cons_zero, List.set_cons_succ, h22, h24] at hK ⊢
                  go_simp
                  exact hK.out _ _ (Below.refl _ _) rfl
                refine owes_cons (Owes.mk (o := ({ dst := some 102, op := .move (.tmp 101), type := 4, pos := "law.go:94", after := #[{ on := 25, ground := .data }, { on := 22, ground := .chain }], guard := none } : Oper)) rfl (fun v wk hj hD K hK => ?_)) ?_
                · have h25 : v 25 = (.bool true) := hD 25 (by decide)
                  simp only [h13_1D, h13_1E, putAll, Act.put, List.getD_cons_succ, List.getD_cons_zero, List.setIfInBounds_toArray, List.set_cons_zero, List.set_cons_succ, h25] at hK ⊢
                  go_simp
                  exact hK.out _ _ (Below.refl _ _) rfl
                refine owes_cons (Owes.mk (o := ({ dst := some 103, op := .move (.tmp 15), type := 4, pos := "law.go:94", after := #[{ on := 26, ground := .guard }], guard := some (26, true) } : Oper)) rfl (fun v wk hj hD K hK => ?_)) ?_
                · have h26 : v 26 = (.bool true) := hD 26 (by decide)
                  simp only [h13_1D, h13_1E, putAll, Act.put, List.getD_cons_succ, List.getD_cons_zero, List.setIfInBounds_toArray, List.set_cons_zero, List.set_cons_succ, h26] at hK ⊢
                  go_simp
                  exact hK.out _ _ (Below.refl _ _) rfl
                refine owes_cons (Owes.mk (o := ({ dst := some 104, op := .unOp Go.UnOp.not 4 (.tmp 103), type := 4, pos := "law.go:94", after := #[{ on := 27, ground := .data }, { on := 26, ground := .guard }], guard := some (26, true) } : Oper)) rfl (fun v wk hj hD K hK => ?_)) ?_
                · have h26 : v 26 = (.bool true) := hD 26 (by decide)
                  have h27 : v 27 = (.bool (false)) := hD 27 (by decide)
                  simp only [h13_1D, h13_1E, putAll, Act.put, List.getD_cons_succ, List.getD_cons_zero, List.setIfInBounds_toArray, List.set_cons_zero, List.set_cons_succ, h26, h27] at hK ⊢
                  go_simp
                  exact hK.out _ _ (Below.refl _ _) rfl
                refine owes_cons (Owes.mk (o := ({ dst := some 105, op := .pick (.tmp 102) (.tmp 104) (.const (.bool false)), type := 4, pos := "law.go:94", after := #[{ on := 26, ground := .data }, { on := 28, ground := .data }], guard := none } : Oper)) rfl (fun v wk hj hD K hK => ?_)) ?_
                · have h26 : v 26 = (.bool true) := hD 26 (by decide)
                  have h28 : v 28 = (.bool true) := hD 28 (by decide)
                  simp only [h13_1D, h13_1E, putAll, Act.put, List.getD_cons_succ, List.getD_cons_zero, List.setIfInBounds_toArray, List.set_cons_zero, List.set_cons_succ, h26, h28] at hK ⊢
                  go_simp
                  exact hK.out _ _ (Below.refl _ _) rfl
                refine owes_cons (Owes.mk (o := ({ dst := some 106, op := .move (.tmp 105), type := 4, pos := "law.go:94", after := #[{ on := 29, ground := .data }, { on := 26, ground := .chain }], guard := none } : Oper)) rfl (fun v wk hj hD K hK => ?_)) ?_
                · have h29 : v 29 = (.bool true) := hD 29 (by decide)
                  simp only [h13_1D, h13_1E, putAll, Act.put, List.getD_cons_succ, List.getD_cons_zero, List.setIfInBounds_toArray, List.set_cons_zero, List.set_cons_succ, h29] at hK ⊢
                  go_simp
                  exact hK.out _ _ (Below.refl _ _) rfl
                refine owes_cons (Owes.mk (o := ({ dst := some 107, op := .load 27 (.tmp 3), type := 27, pos := "law.go:94", after := #[{ on := 30, ground := .guard }], guard := some (30, true) } : Oper)) rfl (fun v wk hj hD K hK => ?_)) ?_
                · have h30 : v 30 = (.bool true) := hD 30 (by decide)
                  simp only [h13_1D, h13_1E, putAll, Act.put, List.getD_cons_succ, List.getD_cons_zero, List.setIfInBounds_toArray, List.set_cons_zero, List.set_cons_succ, h30] at hK ⊢
                  obtain ⟨⟨a0, a1, a2, a3, a4, _⟩, _⟩ := hj.v (w.heap.size, a) (by simp)
                  go_simp
                  exact hK.out _ _ (Below.refl _ _) rfl
                refine owes_cons (Owes.mk (o := ({ dst := some 108, op := .call { callee := .value (.func 21), args := #[.const (.int .i64 2), .tmp 107], argTypes := #[3, 27] }, type := 25, pos := "law.go:94", after := #[{ on := 31, ground := .data }, { on := 30, ground := .chain }, { on := 30, ground := .guard }], guard := some (30, true) } : Oper)) rfl (fun v wk hj hD K hK => ?_)) ?_
                · have h30 : v 30 = (.bool true) := hD 30 (by decide)
                  have h31 : v 31 = (a.v) := hD 31 (by decide)
                  simp only [h13_1D, h13_1E, putAll, Act.put, List.getD_cons_succ, List.getD_cons_zero, List.setIfInBounds_toArray, List.set_cons_zero, List.set_cons_succ, h30, h31] at hK ⊢
                  go_simp
                  refine (one_any wk (d + 20) 2 (by omega) a (hj.v (w.heap.size, a) (by simp)).2).mono ?_
                  rintro e w2 ⟨z, rfl, tz, iz, hb⟩
                  exact hK.out _ _ hb ⟨z, rfl, tz, iz⟩
                refine owes_cons (Owes.mk (o := ({ dst := some 109, op := .load 27 (.tmp 4), type := 27, pos := "law.go:94", after := #[{ on := 30, ground := .guard }], guard := some (30, true) } : Oper)) rfl (fun v wk hj hD K hK => ?_)) ?_
                · have h30 : v 30 = (.bool true) := hD 30 (by decide)
                  simp only [h13_1D, h13_1E, putAll, Act.put, List.getD_cons_succ, List.getD_cons_zero, List.setIfInBounds_toArray, List.set_cons_zero, List.set_cons_succ, h30] at hK ⊢
                  obtain ⟨⟨a0, a1, a2, a3, a4, _⟩, _⟩ := hj.v (w.heap.size + 1, y) (by simp)
                  go_simp
                  exact hK.out _ _ (Below.refl _ _) rfl
                refine owes_cons (Owes.mk (o := ({ dst := some 110, op := .call { callee := .value (.func 14), args := #[.tmp 108, .tmp 109], argTypes := #[25, 27] }, type := 4, pos := "law.go:94", after := #[{ on := 32, ground := .data }, { on := 33, ground := .data }, { on := 32, ground := .chain }, { on := 30, ground := .guard }], guard := some (30, true) } : Oper)) rfl (fun v wk hj hD K hK => ?_)) ?_
                · have h30 : v 30 = (.bool true) := hD 30 (by decide)
                  obtain ⟨q32, h32, t32, r32⟩ : IsPt 1 (.mk 2 [a.t] []) (v 32) wk := hD 32 (by decide)
                  have h33 : v 33 = (y.v) := hD 33 (by decide)
                  simp only [h13_1D, h13_1E, putAll, Act.put, List.getD_cons_succ, List.getD_cons_zero, List.setIfInBounds_toArray, List.set_cons_zero, List.set_cons_succ, h30, h32, h33] at hK ⊢
                  replace t32 := Lib.hid t32
                  go_simp
                  refine (k_test wk 1 (d + 20) q32 y r32 (hj.v (w.heap.size + 1, y) (by simp)).2 true (by rw [t32.out]; exact VNE.out)).mono ?_
                  rintro e w2 ⟨rfl, hb⟩
                  exact hK.out _ _ hb rfl
                refine owes_cons (Owes.mk (o := ({ dst := some 111, op := .pick (.tmp 106) (.tmp 110) (.const (.bool false)), type := 4, pos := "law.go:94", after := #[{ on := 30, ground := .data }, { on := 34, ground := .data }], guard := none } : Oper)) rfl (fun v wk hj hD K hK => ?_)) ?_
                · have h30 : v 30 = (.bool true) := hD 30 (by decide)
                  have h34 : v 34 = (.bool true) := hD 34 (by decide)
                  simp only [h13_1D, h13_1E, putAll, Act.put, List.getD_cons_succ, List.getD_cons_zero, List.setIfInBounds_toArray, List.set_cons_zero, List.set_cons_succ, h30, h34] at hK ⊢
                  go_simp
                  exact hK.out _ _ (Below.refl _ _) rfl
                refine owes_cons (Owes.mk (o := ({ dst := some 112, op := .move (.tmp 111), type := 4, pos := "law.go:94", after := #[{ on := 35, ground := .data }, { on := 34, ground := .chain }], guard := none } : Oper)) rfl (fun v wk hj hD K hK => ?_)) ?_
                · have h35 : v 35 = (.bool true) := hD 35 (by decide)
                  simp only [h13_1D, h13_1E, putAll, Act.put, List.getD_cons_succ, List.getD_cons_zero, List.setIfInBounds_toArray, List.set_cons_zero, List.set_cons_succ, h35] at hK ⊢
                  go_simp
                  exact hK.out _ _ (Below.refl _ _) rfl
                refine owes_cons (Owes.mk (o := ({ dst := some 113, op := .call { callee := .value (.func 11), args := #[], argTypes := #[] }, type := 4, pos := "law.go:94", after := #[{ on := 36, ground := .chain }, { on := 36, ground := .guard }], guard := some (36, true) } : Oper)) rfl (fun v wk hj hD K hK => ?_)) ?_
                · have h36 : v 36 = (.bool true) := hD 36 (by decide)
                  simp only [h13_1D, h13_1E, putAll, Act.put, List.getD_cons_succ, List.getD_cons_zero, List.setIfInBounds_toArray, List.set_cons_zero, List.set_cons_succ, h36] at hK ⊢
                  go_simp
                  refine (known_any wk).mono ?_
                  rintro e w2 ⟨rfl, hb⟩
                  exact hK.out _ _ hb rfl
                refine owes_cons (Owes.mk (o := ({ dst := some 114, op := .pick (.tmp 112) (.tmp 113) (.const (.bool false)), type := 4, pos := "law.go:94", after := #[{ on := 36, ground := .data }, { on := 37, ground := .data }], guard := none } : Oper)) rfl (fun v wk hj hD K hK => ?_)) ?_
                · have h36 : v 36 = (.bool true) := hD 36 (by decide)
                  have h37 : v 37 = (.bool true) := hD 37 (by decide)
                  simp only [h13_1D, h13_1E, putAll, Act.put, List.getD_cons_succ, List.getD_cons_zero, List.setIfInBounds_toArray, List.set_cons_zero, List.set_cons_succ, h36, h37] at hK ⊢
                  go_simp
                  exact hK.out _ _ (Below.refl _ _) rfl
                refine owes_cons (Owes.mk (o := ({ dst := some 6, op := .assign (.tmp 114), type := 4, pos := "law.go:94", after := #[{ on := 38, ground := .data }, { on := 37, ground := .chain }, { on := 0, ground := .phase }, { on := 1, ground := .phase }, { on := 2, ground := .phase }, { on := 3, ground := .phase }, { on := 4, ground := .phase }, { on := 5, ground := .phase }, { on := 6, ground := .phase }, { on := 7, ground := .phase }, { on := 8, ground := .phase }, { on := 9, ground := .phase }, { on := 10, ground := .phase }, { on := 11, ground := .phase }, { on := 12, ground := .phase }, { on := 13, ground := .phase }, { on := 14, ground := .phase }, { on := 15, ground := .phase }, { on := 16, ground := .phase }, { on := 17, ground := .phase }, { on := 18, ground := .phase }, { on := 19, ground := .phase }, { on := 20, ground := .phase }, { on := 21, ground := .phase }, { on := 22, ground := .phase }, { on := 23, ground := .phase }, { on := 24, ground := .phase }, { on := 25, ground := .phase }, { on := 26, ground := .phase }, { on := 27, ground := .phase }, { on := 28, ground := .phase }, { on := 29, ground := .phase }, { on := 30, ground := .phase }, { on := 31, ground := .phase }, { on := 32, ground := .phase }, { on := 33, ground := .phase }, { on := 34, ground := .phase }, { on := 35, ground := .phase }, { on := 36, ground := .phase }, { on := 37, ground := .phase }, { on := 38, ground := .phase }], guard := none } : Oper)) rfl (fun v wk hj hD K hK => ?_)) ?_
                · have h38 : v 38 = (.bool true) := hD 38 (by decide)
                  simp only [h13_1D, h13_1E, putAll, Act.put, List.getD_cons_succ, List.getD_cons_zero, List.setIfInBounds_toArray, List.set_cons_zero, List.set_cons_succ, h38] at hK ⊢
                  go_simp
                  exact hK.out _ _ (Below.refl _ _) rfl
                exact owes_nil
              · intro vf w13 hj hr
                have hl : vf 39 = .bool true := hr 39 (by decide)
                simp only [h13_1D, putAll, Act.put, List.getD_cons_succ, List.getD_cons_zero, List.setIfInBounds_toArray, List.set_cons_zero, List.set_cons_succ, hl]
                clear hl hr
                have Kw13 := Lib.hid hj
                clear hj
                go_wp2
                go_ret
                exact ⟨rfl, Kw13.out.bel⟩
            have n1 : (a.t.k != y.t.k) = false := by rw [bne_not, hk]; simp
            have n0 : (a.t.k == y.t.k) = true := beq_iff_eq.2 hk
            clear hk
            rcases TP.out with hp | hp | hp
            · skip
              subst hp
              have eLT : LT = true := by rw [ELT.out, n0]; rfl
              have eGT : GT = false := by rw [EGT.out, n0]; rfl
              have eEQ : EQ = false := by rw [EEQ.out]; rfl
              have eLE : LE = true := by rw [ELE.out, n0]; rfl
              have eGE : GE = false := by rw [EGE.out, n0]; rfl
              subst eLT
              subst eGT
              subst eEQ
              subst eLE
              subst eGE
              by_cases hk : b.t.k = y.t.k
              case neg =>
                have m1 : (b.t.k != y.t.k) = true := by rw [bne_not, beq_eq_false_iff_ne.2 hk]; rfl
                have m0 : (b.t.k == y.t.k) = false := beq_eq_false_iff_ne.2 hk
                have eBT : BT = false := by rw [EBT.out, n0, m0]; rfl
                have eIN : IN = false := by rw [EIN.out, n0, m0]; rfl
                have eOU : OU = false := by rw [EOU.out, n0, m0]; rfl
                subst eBT
                subst eIN
                subst eOU
                clear hk m0
                obtain ⟨⟨ay0, ay1, ay2, ay3, ay4, _⟩, _⟩ := L2.out.v (w.heap.size, a) (by simp)
                obtain ⟨⟨yy0, yy1, yy2, yy3, yy4, _⟩, _⟩ := L2.out.v (w.heap.size + 1, y) (by simp)
                obtain ⟨⟨by0, by1, by2, by3, by4, _⟩, _⟩ := L2.out.v (w.heap.size + 1 + 1, b) (by simp)
                go_wp2_with fail
                refine (known_any x2).mono ?_
                rintro e wk ⟨rfl, hbk⟩
                have BK := Lib.hid (bnext L2.out.bel hbk)
                clear hbk
                go_wp2
                go_ret
                exact ⟨rfl, BK.out⟩
              have m1 : (b.t.k != y.t.k) = false := by rw [bne_not, hk]; simp
              have m0 : (b.t.k == y.t.k) = true := beq_iff_eq.2 hk
              clear hk
              obtain ⟨⟨ay0, ay1, ay2, ay3, ay4, _⟩, _⟩ := L2.out.v (w.heap.size, a) (by simp)
              obtain ⟨⟨yy0, yy1, yy2, yy3, yy4, _⟩, _⟩ := L2.out.v (w.heap.size + 1, y) (by simp)
              obtain ⟨⟨by0, by1, by2, by3, by4, _⟩, _⟩ := L2.out.v (w.heap.size + 1 + 1, b) (by simp)
              go_upto_region 25 with fail
              clear ay0 ay1 ay2 ay3 ay4 yy0 yy1 yy2 yy3 yy4 by0 by1 by2 by3 by4
              refine region_phase_all [0, 1, 2, 3, 4] h25_3D h25_3E (fun w' => PS w (d + 20) [] [(w.heap.size + 1 + 1, b), (w.heap.size + 1, y), (w.heap.size, a)] w') (saidOf [Is (b.v), IsPt 1 (.mk 3 [b.t] []), Is (y.v), Is (.bool (LS)), Is (.bool (LS))]) 187 (by rfl) (by kernel_rfl) (by kernel_rfl) (by kernel_rfl) (fun _ _ h hb => h.next hb) (stays_said _ (stays_cons (Is.stays _) (stays_cons (IsPt.stays _ _) (stays_cons (Is.stays _) (stays_cons (Is.stays _) (stays_cons (Is.stays _) stays_nil)))))) (L2.out.next (below_drewN _ _ 1)) (by kernel_rfl) ?_ ?_
              · skip
                refine owes_cons (Owes.mk (o := ({ dst := some 154, op := .load 27 (.tmp 5), type := 27, pos := "law.go:112", after := #[], guard := none } : Oper)) rfl (fun v wk hj hD K hK => ?_)) ?_
                · simp only [h25_3D, h25_3E, putAll, Act.put, List.getD_cons_zero, List.setIfInBounds_toArray, List.set_cons_zero, List.set_cons_succ] at hK ⊢
                  obtain ⟨⟨a0, a1, a2, a3, a4, _⟩, _⟩ := hj.v (w.heap.size + 1 + 1, b) (by simp)
                  go_simp
                  exact hK.out _ _ (Below.refl _ _) rfl
                refine owes_cons (Owes.mk (o := ({ dst := some 155, op := .call { callee := .value (.func 21), args := #[.const (.int .i64 3), .tmp 154], argTypes := #[3, 27] }, type := 25, pos := "law.go:112", after := #[{ on := 0, ground := .data }], guard := none } : Oper)) rfl (fun v wk hj hD K hK => ?_)) ?_
                · have h0 : v 0 = (b.v) := hD 0 (by decide)
                  simp only [h25_3D, h25_3E, putAll, Act.put, List.getD_cons_succ, List.getD_cons_zero, List.setIfInBounds_toArray, List.set_cons_zero, List.set_cons_succ, h0] at hK ⊢
                  go_simp
                  refine (one_any wk (d + 20) 3 (by omega) b (hj.v (w.heap.size + 1 + 1, b) (by simp)).2).mono ?_
                  rintro e w2 ⟨z, rfl, tz, iz, hb⟩
                  exact hK.out _ _ hb ⟨z, rfl, tz, iz⟩
                refine owes_cons (Owes.mk (o := ({ dst := some 156, op := .load 27 (.tmp 4), type := 27, pos := "law.go:112", after := #[], guard := none } : Oper)) rfl (fun v wk hj hD K hK => ?_)) ?_
                · simp only [h25_3D, h25_3E, putAll, Act.put, List.getD_cons_succ, List.getD_cons_zero, List.setIfInBounds_toArray, List.set_cons_zero, List.set_cons_succ] at hK ⊢
                  obtain ⟨⟨a0, a1, a2, a3, a4, _⟩, _⟩ := hj.v (w.heap.size + 1, y) (by simp)
                  go_simp
                  exact hK.out _ _ (Below.refl _ _) rfl
                refine owes_cons (Owes.mk (o := ({ dst := some 157, op := .call { callee := .value (.func 14), args := #[.tmp 155, .tmp 156], argTypes := #[25, 27] }, type := 4, pos := "law.go:112", after := #[{ on := 1, ground := .data }, { on := 2, ground := .data }, { on := 1, ground := .chain }], guard := none } : Oper)) rfl (fun v wk hj hD K hK => ?_)) ?_
                · obtain ⟨q1, h1, t1, r1⟩ : IsPt 1 (.mk 3 [b.t] []) (v 1) wk := hD 1 (by decide)
                  have h2 : v 2 = (y.v) := hD 2 (by decide)
                  simp only [h25_3D, h25_3E, putAll, Act.put, List.getD_cons_succ, List.getD_cons_zero, List.setIfInBounds_toArray, List.set_cons_zero, List.set_cons_succ, h1, h2] at hK ⊢
                  replace t1 := Lib.hid t1
                  go_simp
                  refine (k_test wk 1 (d + 20) q1 y r1 (hj.v (w.heap.size + 1, y) (by simp)).2 LS (by rw [t1.out]; exact VLS.out)).mono ?_
                  rintro e w2 ⟨rfl, hb⟩
                  exact hK.out _ _ hb rfl
                refine owes_cons (Owes.mk (o := ({ dst := some 17, op := .assign (.tmp 157), type := 4, pos := "law.go:112", after := #[{ on := 3, ground := .data }, { on := 3, ground := .chain }, { on := 0, ground := .phase }, { on := 1, ground := .phase }, { on := 2, ground := .phase }, { on := 3, ground := .phase }], guard := none } : Oper)) rfl (fun v wk hj hD K hK => ?_)) ?_
                · have h3 : v 3 = (.bool (LS)) := hD 3 (by decide)
                  simp only [h25_3D, h25_3E, putAll, Act.put, List.getD_cons_succ, List.getD_cons_zero, List.setIfInBounds_toArray, List.set_cons_zero, List.set_cons_succ, h3] at hK ⊢
                  go_simp
                  exact hK.out _ _ (Below.refl _ _) rfl
                exact owes_nil
              · intro vf w25 hj hr
                have hl : vf 4 = .bool (LS) := hr 4 (by decide)
                simp only [h25_3D, putAll, Act.put, List.getD_cons_succ, List.getD_cons_zero, List.setIfInBounds_toArray, List.set_cons_zero, List.set_cons_succ, hl]
                clear hl hr
                have Kw25 := Lib.hid hj
                clear hj
                go_upto_region 26 with fail
                refine region_phase_all [0, 1, 2, 3, 4] h26_2D h26_2E (fun w' => PS w (d + 20) [] [(w.heap.size + 1 + 1, b), (w.heap.size + 1, y), (w.heap.size, a)] w') (saidOf [Is (b.v), IsPt 1 (.mk 5 [b.t] []), Is (y.v), Is (.bool (MO)), Is (.bool (MO))]) 187 (by rfl) (by kernel_rfl) (by kernel_rfl) (by kernel_rfl) (fun _ _ h hb => h.next hb) (stays_said _ (stays_cons (Is.stays _) (stays_cons (IsPt.stays _ _) (stays_cons (Is.stays _) (stays_cons (Is.stays _) (stays_cons (Is.stays _) stays_nil)))))) (Kw25.out.next (below_drewN _ _ 1)) (by kernel_rfl) ?_ ?_
                · skip
                  refine owes_cons (Owes.mk (o := ({ dst := some 158, op := .load 27 (.tmp 5), type := 27, pos := "law.go:113", after := #[], guard := none } : Oper)) rfl (fun v wk hj hD K hK => ?_)) ?_
                  · simp only [h26_2D, h26_2E, putAll, Act.put, List.getD_cons_zero, List.setIfInBounds_toArray, List.set_cons_zero, List.set_cons_succ] at hK ⊢
                    obtain ⟨⟨a0, a1, a2, a3, a4, _⟩, _⟩ := hj.v (w.heap.size + 1 + 1, b) (by simp)
                    go_simp
                    exact hK.out _ _ (Below.refl _ _) rfl
                  refine owes_cons (Owes.mk (o := ({ dst := some 159, op := .call { callee := .value (.func 21), args := #[.const (.int .i64 5), .tmp 158], argTypes := #[3, 27] }, type := 25, pos := "law.go:113", after := #[{ on := 0, ground := .data }], guard := none } : Oper)) rfl (fun v wk hj hD K hK => ?_)) ?_
                  · have h0 : v 0 = (b.v) := hD 0 (by decide)
                    simp only [h26_2D, h26_2E, putAll, Act.put, List.getD_cons_succ, List.getD_cons_zero, List.setIfInBounds_toArray, List.set_cons_zero, List.set_cons_succ, h0] at hK ⊢
                    go_simp
                    refine (one_any wk (d + 20) 5 (by omega) b (hj.v (w.heap.size + 1 + 1, b) (by simp)).2).mono ?_
                    rintro e w2 ⟨z, rfl, tz, iz, hb⟩
                    exact hK.out _ _ hb ⟨z, rfl, tz, iz⟩
                  refine owes_cons (Owes.mk (o := ({ dst := some 160, op := .load 27 (.tmp 4), type := 27, pos := "law.go:113", after := #[], guard := none } : Oper)) rfl (fun v wk hj hD K hK => ?_)) ?_
                  · simp only [h26_2D, h26_2E, putAll, Act.put, List.getD_cons_succ, List.getD_cons_zero, List.setIfInBounds_toArray, List.set_cons_zero, List.set_cons_succ] at hK ⊢
                    obtain ⟨⟨a0, a1, a2, a3, a4, _⟩, _⟩ := hj.v (w.heap.size + 1, y) (by simp)
                    go_simp
                    exact hK.out _ _ (Below.refl _ _) rfl
                  refine owes_cons (Owes.mk (o := ({ dst := some 161, op := .call { callee := .value (.func 14), args := #[.tmp 159, .tmp 160], argTypes := #[25, 27] }, type := 4, pos := "law.go:113", after := #[{ on := 1, ground := .data }, { on := 2, ground := .data }, { on := 1, ground := .chain }], guard := none } : Oper)) rfl (fun v wk hj hD K hK => ?_)) ?_
                  · obtain ⟨q1, h1, t1, r1⟩ : IsPt 1 (.mk 5 [b.t] []) (v 1) wk := hD 1 (by decide)
                    have h2 : v 2 = (y.v) := hD 2 (by decide)
                    simp only [h26_2D, h26_2E, putAll, Act.put, List.getD_cons_succ, List.getD_cons_zero, List.setIfInBounds_toArray, List.set_cons_zero, List.set_cons_succ, h1, h2] at hK ⊢
                    replace t1 := Lib.hid t1
                    go_simp
                    refine (k_test wk 1 (d + 20) q1 y r1 (hj.v (w.heap.size + 1, y) (by simp)).2 MO (by rw [t1.out]; exact VMO.out)).mono ?_
                    rintro e w2 ⟨rfl, hb⟩
                    exact hK.out _ _ hb rfl
                  refine owes_cons (Owes.mk (o := ({ dst := some 18, op := .assign (.tmp 161), type := 4, pos := "law.go:113", after := #[{ on := 3, ground := .data }, { on := 3, ground := .chain }, { on := 0, ground := .phase }, { on := 1, ground := .phase }, { on := 2, ground := .phase }, { on := 3, ground := .phase }], guard := none } : Oper)) rfl (fun v wk hj hD K hK => ?_)) ?_
                  · have h3 : v 3 = (.bool (MO)) := hD 3 (by decide)
                    simp only [h26_2D, h26_2E, putAll, Act.put, List.getD_cons_succ, List.getD_cons_zero, List.setIfInBounds_toArray, List.set_cons_zero, List.set_cons_succ, h3] at hK ⊢
                    go_simp
                    exact hK.out _ _ (Below.refl _ _) rfl
                  exact owes_nil
                · intro vf w26 hj hr
                  have hl : vf 4 = .bool (MO) := hr 4 (by decide)
                  simp only [h26_2D, putAll, Act.put, List.getD_cons_succ, List.getD_cons_zero, List.setIfInBounds_toArray, List.set_cons_zero, List.set_cons_succ, hl]
                  clear hl hr
                  have Kw26 := Lib.hid hj
                  clear hj
                  rcases TQ.out with hq | hq | hq
                  · skip
                    subst hq
                    have eBT : BT = false := by rw [EBT.out, n0, m0]; rfl
                    have eIN : IN = false := by rw [EIN.out, n0, m0]; rfl
                    have eOU : OU = true := by rw [EOU.out, n0, m0]; rfl
                    have eLS : LS = true := by rw [ELS.out, m0]; rfl
                    have eMO : MO = false := by rw [EMO.out, m0]; rfl
                    subst eBT
                    subst eIN
                    subst eOU
                    subst eLS
                    subst eMO
                    go_wp2_with fail
                    refine (known_any w26).mono ?_
                    rintro e wk ⟨rfl, hbk⟩
                    have BK := Lib.hid (bnext Kw26.out.bel hbk)
                    clear hbk
                    go_wp2
                    go_ret
                    exact ⟨rfl, BK.out⟩
                  · skip
                    subst hq
                    have eBT : BT = false := by rw [EBT.out, n0, m0]; rfl
                    have eIN : IN = false := by rw [EIN.out, n0, m0]; rfl
                    have eOU : OU = true := by rw [EOU.out, n0, m0]; rfl
                    have eLS : LS = false := by rw [ELS.out, m0]; rfl
                    have eMO : MO = false := by rw [EMO.out, m0]; rfl
                    subst eBT
                    subst eIN
                    subst eOU
                    subst eLS
                    subst eMO
                    go_wp2_with fail
                    refine (known_any w26).mono ?_
                    rintro e wk ⟨rfl, hbk⟩
                    have BK := Lib.hid (bnext Kw26.out.bel hbk)
                    clear hbk
                    go_wp2
                    go_ret
                    exact ⟨rfl, BK.out⟩
                  · skip
                    subst hq
                    have eBT : BT = false := by rw [EBT.out, n0, m0]; rfl
                    have eIN : IN = false := by rw [EIN.out, n0, m0]; rfl
                    have eOU : OU = true := by rw [EOU.out, n0, m0]; rfl
                    have eLS : LS = false := by rw [ELS.out, m0]; rfl
                    have eMO : MO = true := by rw [EMO.out, m0]; rfl
                    subst eBT
                    subst eIN
                    subst eOU
                    subst eLS
                    subst eMO
                    go_wp2_with fail
                    refine (known_any w26).mono ?_
                    rintro e wk ⟨rfl, hbk⟩
                    have BK := Lib.hid (bnext Kw26.out.bel hbk)
                    clear hbk
                    go_wp2
                    go_ret
                    exact ⟨rfl, BK.out⟩
            · skip
              subst hp
              have eLT : LT = false := by rw [ELT.out, n0]; rfl
              have eGT : GT = false := by rw [EGT.out, n0]; rfl
              have eEQ : EQ = true := by rw [EEQ.out]; rfl
              have eLE : LE = true := by rw [ELE.out, n0]; rfl
              have eGE : GE = true := by rw [EGE.out, n0]; rfl
              subst eLT
              subst eGT
              subst eEQ
              subst eLE
              subst eGE
              by_cases hk : b.t.k = y.t.k
              case neg =>
                have m1 : (b.t.k != y.t.k) = true := by rw [bne_not, beq_eq_false_iff_ne.2 hk]; rfl
                have m0 : (b.t.k == y.t.k) = false := beq_eq_false_iff_ne.2 hk
                have eBT : BT = false := by rw [EBT.out, n0, m0]; rfl
                have eIN : IN = false := by rw [EIN.out, n0, m0]; rfl
                have eOU : OU = false := by rw [EOU.out, n0, m0]; rfl
                subst eBT
                subst eIN
                subst eOU
                clear hk m0
                obtain ⟨⟨ay0, ay1, ay2, ay3, ay4, _⟩, _⟩ := L2.out.v (w.heap.size, a) (by simp)
                obtain ⟨⟨yy0, yy1, yy2, yy3, yy4, _⟩, _⟩ := L2.out.v (w.heap.size + 1, y) (by simp)
                obtain ⟨⟨by0, by1, by2, by3, by4, _⟩, _⟩ := L2.out.v (w.heap.size + 1 + 1, b) (by simp)
                go_wp2_with fail
                refine (known_any x2).mono ?_
                rintro e wk ⟨rfl, hbk⟩
                have BK := Lib.hid (bnext L2.out.bel hbk)
                clear hbk
                go_wp2
                go_ret
                exact ⟨rfl, BK.out⟩
              have m1 : (b.t.k != y.t.k) = false := by rw [bne_not, hk]; simp
              have m0 : (b.t.k == y.t.k) = true := beq_iff_eq.2 hk
              clear hk
              obtain ⟨⟨ay0, ay1, ay2, ay3, ay4, _⟩, _⟩ := L2.out.v (w.heap.size, a) (by simp)
              obtain ⟨⟨yy0, yy1, yy2, yy3, yy4, _⟩, _⟩ := L2.out.v (w.heap.size + 1, y) (by simp)
              obtain ⟨⟨by0, by1, by2, by3, by4, _⟩, _⟩ := L2.out.v (w.heap.size + 1 + 1, b) (by simp)
              go_upto_region 25 with fail
              clear ay0 ay1 ay2 ay3 ay4 yy0 yy1 yy2 yy3 yy4 by0 by1 by2 by3 by4
              refine region_phase_all [0, 1, 2, 3, 4] h25_5D h25_5E (fun w' => PS w (d + 20) [] [(w.heap.size + 1 + 1, b), (w.heap.size + 1, y), (w.heap.size, a)] w') (saidOf [Is (b.v), IsPt 1 (.mk 3 [b.t] []), Is (y.v), Is (.bool (LS)), Is (.bool (LS))]) 187 (by rfl) (by kernel_rfl) (by kernel_rfl) (by kernel_rfl) (fun _ _ h hb => h.next hb) (stays_said _ (stays_cons (Is.stays _) (stays_cons (IsPt.stays _ _) (stays_cons (Is.stays _) (stays_cons (Is.stays _) (stays_cons (Is.stays _) stays_nil)))))) (L2.out.next (below_drewN _ _ 1)) (by kernel_rfl) ?_ ?_
              · skip
                refine owes_cons (Owes.mk (o := ({ dst := some 154, op := .load 27 (.tmp 5), type := 27, pos := "law.go:112", after := #[], guard := none } : Oper)) rfl (fun v wk hj hD K hK => ?_)) ?_
                · simp only [h25_5D, h25_5E, putAll, Act.put, List.getD_cons_zero, List.setIfInBounds_toArray, List.set_cons_zero, List.set_cons_succ] at hK ⊢
                  obtain ⟨⟨a0, a1, a2, a3, a4, _⟩, _⟩ := hj.v (w.heap.size + 1 + 1, b) (by simp)
                  go_simp
                  exact hK.out _ _ (Below.refl _ _) rfl
                refine owes_cons (Owes.mk (o := ({ dst := some 155, op := .call { callee := .value (.func 21), args := #[.const (.int .i64 3), .tmp 154], argTypes := #[3, 27] }, type := 25, pos := "law.go:112", after := #[{ on := 0, ground := .data }], guard := none } : Oper)) rfl (fun v wk hj hD K hK => ?_)) ?_
                · have h0 : v 0 = (b.v) := hD 0 (by decide)
                  simp only [h25_5D, h25_5E, putAll, Act.put, List.getD_cons_succ, List.getD_cons_zero, List.setIfInBounds_toArray, List.set_cons_zero, List.set_cons_succ, h0] at hK ⊢
                  go_simp
                  refine (one_any wk (d + 20) 3 (by omega) b (hj.v (w.heap.size + 1 + 1, b) (by simp)).2).mono ?_
                  rintro e w2 ⟨z, rfl, tz, iz, hb⟩
                  exact hK.out _ _ hb ⟨z, rfl, tz, iz⟩
                refine owes_cons (Owes.mk (o := ({ dst := some 156, op := .load 27 (.tmp 4), type := 27, pos := "law.go:112", after := #[], guard := none } : Oper)) rfl (fun v wk hj hD K hK => ?_)) ?_
                · simp only [h25_5D, h25_5E, putAll, Act.put, List.getD_cons_succ, List.getD_cons_zero, List.setIfInBounds_toArray, List.set_cons_zero, List.set_cons_succ] at hK ⊢
                  obtain ⟨⟨a0, a1, a2, a3, a4, _⟩, _⟩ := hj.v (w.heap.size + 1, y) (by simp)
                  go_simp
                  exact hK.out _ _ (Below.refl _ _) rfl
                refine owes_cons (Owes.mk (o := ({ dst := some 157, op := .call { callee := .value (.func 14), args := #[.tmp 155, .tmp 156], argTypes := #[25, 27] }, type := 4, pos := "law.go:112", after := #[{ on := 1, ground := .data }, { on := 2, ground := .data }, { on := 1, ground := .chain }], guard := none } : Oper)) rfl (fun v wk hj hD K hK => ?_)) ?_
                · obtain ⟨q1, h1, t1, r1⟩ : IsPt 1 (.mk 3 [b.t] []) (v 1) wk := hD 1 (by decide)
                  have h2 : v 2 = (y.v) := hD 2 (by decide)
                  simp only [h25_5D, h25_5E, putAll, Act.put, List.getD_cons_succ, List.getD_cons_zero, List.setIfInBounds_toArray, List.set_cons_zero, List.set_cons_succ, h1, h2] at hK ⊢
                  replace t1 := Lib.hid t1
                  go_simp
                  refine (k_test wk 1 (d + 20) q1 y r1 (hj.v (w.heap.size + 1, y) (by simp)).2 LS (by rw [t1.out]; exact VLS.out)).mono ?_
                  rintro e w2 ⟨rfl, hb⟩
                  exact hK.out _ _ hb rfl
                refine owes_cons (Owes.mk (o := ({ dst := some 17, op := .assign (.tmp 157), type := 4, pos := "law.go:112", after := #[{ on := 3, ground := .data }, { on := 3, ground := .chain }, { on := 0, ground := .phase }, { on := 1, ground := .phase }, { on := 2, ground := .phase }, { on := 3, ground := .phase }], guard := none } : Oper)) rfl (fun v wk hj hD K hK => ?_)) ?_
                · have h3 : v 3 = (.bool (LS)) := hD 3 (by decide)
                  simp only [h25_5D, h25_5E, putAll, Act.put, List.getD_cons_succ, List.getD_cons_zero, List.setIfInBounds_toArray, List.set_cons_zero, List.set_cons_succ, h3] at hK ⊢
                  go_simp
                  exact hK.out _ _ (Below.refl _ _) rfl
                exact owes_nil
              · intro vf w25 hj hr
                have hl : vf 4 = .bool (LS) := hr 4 (by decide)
                simp only [h25_5D, putAll, Act.put, List.getD_cons_succ, List.getD_cons_zero, List.setIfInBounds_toArray, List.set_cons_zero, List.set_cons_succ, hl]
                clear hl hr
                have Kw25 := Lib.hid hj
                clear hj
                go_upto_region 26 with fail
                refine region_phase_all [0, 1, 2, 3, 4] h26_4D h26_4E (fun w' => PS w (d + 20) [] [(w.heap.size + 1 + 1, b), (w.heap.size + 1, y), (w.heap.size, a)] w') (saidOf [Is (b.v), IsPt 1 (.mk 5 [b.t] []), Is (y.v), Is (.bool (MO)), Is (.bool (MO))]) 187 (by rfl) (by kernel_rfl) (by kernel_rfl) (by kernel_rfl) (fun _ _ h hb => h.next hb) (stays_said _ (stays_cons (Is.stays _) (stays_cons (IsPt.stays _ _) (stays_cons (Is.stays _) (stays_cons (Is.stays _) (stays_cons (Is.stays _) stays_nil)))))) (Kw25.out.next (below_drewN _ _ 1)) (by kernel_rfl) ?_ ?_
                · skip
                  refine owes_cons (Owes.mk (o := ({ dst := some 158, op := .load 27 (.tmp 5), type := 27, pos := "law.go:113", after := #[], guard := none } : Oper)) rfl (fun v wk hj hD K hK => ?_)) ?_
                  · simp only [h26_4D, h26_4E, putAll, Act.put, List.getD_cons_zero, List.setIfInBounds_toArray, List.set_cons_zero, List.set_cons_succ] at hK ⊢
                    obtain ⟨⟨a0, a1, a2, a3, a4, _⟩, _⟩ := hj.v (w.heap.size + 1 + 1, b) (by simp)
                    go_simp
                    exact hK.out _ _ (Below.refl _ _) rfl
                  refine owes_cons (Owes.mk (o := ({ dst := some 159, op := .call { callee := .value (.func 21), args := #[.const (.int .i64 5), .tmp 158], argTypes := #[3, 27] }, type := 25, pos := "law.go:113", after := #[{ on := 0, ground := .data }], guard := none } : Oper)) rfl (fun v wk hj hD K hK => ?_)) ?_
                  · have h0 : v 0 = (b.v) := hD 0 (by decide)
                    simp only [h26_4D, h26_4E, putAll, Act.put, List.getD_cons_succ, List.getD_cons_zero, List.setIfInBounds_toArray, List.set_cons_zero, List.set_cons_succ, h0] at hK ⊢
                    go_simp
                    refine (one_any wk (d + 20) 5 (by omega) b (hj.v (w.heap.size + 1 + 1, b) (by simp)).2).mono ?_
                    rintro e w2 ⟨z, rfl, tz, iz, hb⟩
                    exact hK.out _ _ hb ⟨z, rfl, tz, iz⟩
                  refine owes_cons (Owes.mk (o := ({ dst := some 160, op := .load 27 (.tmp 4), type := 27, pos := "law.go:113", after := #[], guard := none } : Oper)) rfl (fun v wk hj hD K hK => ?_)) ?_
                  · simp only [h26_4D, h26_4E, putAll, Act.put, List.getD_cons_succ, List.getD_cons_zero, List.setIfInBounds_toArray, List.set_cons_zero, List.set_cons_succ] at hK ⊢
                    obtain ⟨⟨a0, a1, a2, a3, a4, _⟩, _⟩ := hj.v (w.heap.size + 1, y) (by simp)
                    go_simp
                    exact hK.out _ _ (Below.refl _ _) rfl
                  refine owes_cons (Owes.mk (o := ({ dst := some 161, op := .call { callee := .value (.func 14), args := #[.tmp 159, .tmp 160], argTypes := #[25, 27] }, type := 4, pos := "law.go:113", after := #[{ on := 1, ground := .data }, { on := 2, ground := .data }, { on := 1, ground := .chain }], guard := none } : Oper)) rfl (fun v wk hj hD K hK => ?_)) ?_
                  · obtain ⟨q1, h1, t1, r1⟩ : IsPt 1 (.mk 5 [b.t] []) (v 1) wk := hD 1 (by decide)
                    have h2 : v 2 = (y.v) := hD 2 (by decide)
                    simp only [h26_4D, h26_4E, putAll, Act.put, List.getD_cons_succ, List.getD_cons_zero, List.setIfInBounds_toArray, List.set_cons_zero, List.set_cons_succ, h1, h2] at hK ⊢
                    replace t1 := Lib.hid t1
                    go_simp
                    refine (k_test wk 1 (d + 20) q1 y r1 (hj.v (w.heap.size + 1, y) (by simp)).2 MO (by rw [t1.out]; exact VMO.out)).mono ?_
                    rintro e w2 ⟨rfl, hb⟩
                    exact hK.out _ _ hb rfl
                  refine owes_cons (Owes.mk (o := ({ dst := some 18, op := .assign (.tmp 161), type := 4, pos := "law.go:113", after := #[{ on := 3, ground := .data }, { on := 3, ground := .chain }, { on := 0, ground := .phase }, { on := 1, ground := .phase }, { on := 2, ground := .phase }, { on := 3, ground := .phase }], guard := none } : Oper)) rfl (fun v wk hj hD K hK => ?_)) ?_
                  · have h3 : v 3 = (.bool (MO)) := hD 3 (by decide)
                    simp only [h26_4D, h26_4E, putAll, Act.put, List.getD_cons_succ, List.getD_cons_zero, List.setIfInBounds_toArray, List.set_cons_zero, List.set_cons_succ, h3] at hK ⊢
                    go_simp
                    exact hK.out _ _ (Below.refl _ _) rfl
                  exact owes_nil
                · intro vf w26 hj hr
                  have hl : vf 4 = .bool (MO) := hr 4 (by decide)
                  simp only [h26_4D, putAll, Act.put, List.getD_cons_succ, List.getD_cons_zero, List.setIfInBounds_toArray, List.set_cons_zero, List.set_cons_succ, hl]
                  clear hl hr
                  have Kw26 := Lib.hid hj
                  clear hj
                  rcases TQ.out with hq | hq | hq
                  · skip
                    subst hq
                    have eBT : BT = true := by rw [EBT.out, n0, m0]; rfl
                    have eIN : IN = false := by rw [EIN.out, n0, m0]; rfl
                    have eOU : OU = false := by rw [EOU.out, n0, m0]; rfl
                    have eLS : LS = true := by rw [ELS.out, m0]; rfl
                    have eMO : MO = false := by rw [EMO.out, m0]; rfl
                    subst eBT
                    subst eIN
                    subst eOU
                    subst eLS
                    subst eMO
                    go_wp2_with fail
                    refine (known_any w26).mono ?_
                    rintro e wk ⟨rfl, hbk⟩
                    have BK := Lib.hid (bnext Kw26.out.bel hbk)
                    clear hbk
                    go_wp2
                    go_ret
                    exact ⟨rfl, BK.out⟩
                  · skip
                    subst hq
                    have eBT : BT = false := by rw [EBT.out, n0, m0]; rfl
                    have eIN : IN = false := by rw [EIN.out, n0, m0]; rfl
                    have eOU : OU = false := by rw [EOU.out, n0, m0]; rfl
                    have eLS : LS = false := by rw [ELS.out, m0]; rfl
                    have eMO : MO = false := by rw [EMO.out, m0]; rfl
                    subst eBT
                    subst eIN
                    subst eOU
                    subst eLS
                    subst eMO
                    go_wp2_with fail
                    refine (known_any w26).mono ?_
                    rintro e wk ⟨rfl, hbk⟩
                    have BK := Lib.hid (bnext Kw26.out.bel hbk)
                    clear hbk
                    go_wp2
                    go_ret
                    exact ⟨rfl, BK.out⟩
                  · skip
                    subst hq
                    have eBT : BT = false := by rw [EBT.out, n0, m0]; rfl
                    have eIN : IN = false := by rw [EIN.out, n0, m0]; rfl
                    have eOU : OU = true := by rw [EOU.out, n0, m0]; rfl
                    have eLS : LS = false := by rw [ELS.out, m0]; rfl
                    have eMO : MO = true := by rw [EMO.out, m0]; rfl
                    subst eBT
                    subst eIN
                    subst eOU
                    subst eLS
                    subst eMO
                    go_wp2_with fail
                    refine (known_any w26).mono ?_
                    rintro e wk ⟨rfl, hbk⟩
                    have BK := Lib.hid (bnext Kw26.out.bel hbk)
                    clear hbk
                    go_wp2
                    go_ret
                    exact ⟨rfl, BK.out⟩
            · skip
              subst hp
              have eLT : LT = false := by rw [ELT.out, n0]; rfl
              have eGT : GT = true := by rw [EGT.out, n0]; rfl
              have eEQ : EQ = false := by rw [EEQ.out]; rfl
              have eLE : LE = false := by rw [ELE.out, n0]; rfl
              have eGE : GE = true := by rw [EGE.out, n0]; rfl
              subst eLT
              subst eGT
              subst eEQ
              subst eLE
              subst eGE
              by_cases hk : b.t.k = y.t.k
              case neg =>
                have m1 : (b.t.k != y.t.k) = true := by rw [bne_not, beq_eq_false_iff_ne.2 hk]; rfl
                have m0 : (b.t.k == y.t.k) = false := beq_eq_false_iff_ne.2 hk
                have eBT : BT = false := by rw [EBT.out, n0, m0]; rfl
                have eIN : IN = false := by rw [EIN.out, n0, m0]; rfl
                have eOU : OU = false := by rw [EOU.out, n0, m0]; rfl
                subst eBT
                subst eIN
                subst eOU
                clear hk m0
                obtain ⟨⟨ay0, ay1, ay2, ay3, ay4, _⟩, _⟩ := L2.out.v (w.heap.size, a) (by simp)
                obtain ⟨⟨yy0, yy1, yy2, yy3, yy4, _⟩, _⟩ := L2.out.v (w.heap.size + 1, y) (by simp)
                obtain ⟨⟨by0, by1, by2, by3, by4, _⟩, _⟩ := L2.out.v (w.heap.size + 1 + 1, b) (by simp)
                go_wp2_with fail
                refine (known_any x2).mono ?_
                rintro e wk ⟨rfl, hbk⟩
                have BK := Lib.hid (bnext L2.out.bel hbk)
                clear hbk
                go_wp2
                go_ret
                exact ⟨rfl, BK.out⟩
              have m1 : (b.t.k != y.t.k) = false := by rw [bne_not, hk]; simp
              have m0 : (b.t.k == y.t.k) = true := beq_iff_eq.2 hk
              clear hk
              obtain ⟨⟨ay0, ay1, ay2, ay3, ay4, _⟩, _⟩ := L2.out.v (w.heap.size, a) (by simp)
              obtain ⟨⟨yy0, yy1, yy2, yy3, yy4, _⟩, _⟩ := L2.out.v (w.heap.size + 1, y) (by simp)
              obtain ⟨⟨by0, by1, by2, by3, by4, _⟩, _⟩ := L2.out.v (w.heap.size + 1 + 1, b) (by simp)
              go_upto_region 25 with fail
              clear ay0 ay1 ay2 ay3 ay4 yy0 yy1 yy2 yy3 yy4 by0 by1 by2 by3 by4
              refine region_phase_all [0, 1, 2, 3, 4] h25_7D h25_7E (fun w' => PS w (d + 20) [] [(w.heap.size + 1 + 1, b), (w.heap.size + 1, y), (w.heap.size, a)] w') (saidOf [Is (b.v), IsPt 1 (.mk 3 [b.t] []), Is (y.v), Is (.bool (LS)), Is (.bool (LS))]) 187 (by rfl) (by kernel_rfl) (by kernel_rfl) (by kernel_rfl) (fun _ _ h hb => h.next hb) (stays_said _ (stays_cons (Is.stays _) (stays_cons (IsPt.stays _ _) (stays_cons (Is.stays _) (stays_cons (Is.stays _) (stays_cons (Is.stays _) stays_nil)))))) (L2.out.next (below_drewN _ _ 1)) (by kernel_rfl) ?_ ?_
              · skip
                refine owes_cons (Owes.mk (o := ({ dst := some 154, op := .load 27 (.tmp 5), type := 27, pos := "law.go:112", after := #[], guard := none } : Oper)) rfl (fun v wk hj hD K hK => ?_)) ?_
                · simp only [h25_7D, h25_7E, putAll, Act.put, List.getD_cons_zero, List.setIfInBounds_toArray, List.set_cons_zero, List.set_cons_succ] at hK ⊢
                  obtain ⟨⟨a0, a1, a2, a3, a4, _⟩, _⟩ := hj.v (w.heap.size + 1 + 1, b) (by simp)
                  go_simp
                  exact hK.out _ _ (Below.refl _ _) rfl
                refine owes_cons (Owes.mk (o := ({ dst := some 155, op := .call { callee := .value (.func 21), args := #[.const (.int .i64 3), .tmp 154], argTypes := #[3, 27] }, type := 25, pos := "law.go:112", after := #[{ on := 0, ground := .data }], guard := none } : Oper)) rfl (fun v wk hj hD K hK => ?_)) ?_
                · have h0 : v 0 = (b.v) := hD 0 (by decide)
                  simp only [h25_7D, h25_7E, putAll, Act.put, List.getD_cons_succ, List.getD_cons_zero, List.setIfInBounds_toArray, List.set_cons_zero, List.set_cons_succ, h0] at hK ⊢
                  go_simp
                  refine (one_any wk (d + 20) 3 (by omega) b (hj.v (w.heap.size + 1 + 1, b) (by simp)).2).mono ?_
                  rintro e w2 ⟨z, rfl, tz, iz, hb⟩
                  exact hK.out _ _ hb ⟨z, rfl, tz, iz⟩
                refine owes_cons (Owes.mk (o := ({ dst := some 156, op := .load 27 (.tmp 4), type := 27, pos := "law.go:112", after := #[], guard := none } : Oper)) rfl (fun v wk hj hD K hK => ?_)) ?_
                · simp only [h25_7D, h25_7E, putAll, Act.put, List.getD_cons_succ, List.getD_cons_zero, List.setIfInBounds_toArray, List.set_cons_zero, List.set_cons_succ] at hK ⊢
                  obtain ⟨⟨a0, a1, a2, a3, a4, _⟩, _⟩ := hj.v (w.heap.size + 1, y) (by simp)
                  go_simp
                  exact hK.out _ _ (Below.refl _ _) rfl
                refine owes_cons (Owes.mk (o := ({ dst := some 157, op := .call { callee := .value (.func 14), args := #[.tmp 155, .tmp 156], argTypes := #[25, 27] }, type := 4, pos := "law.go:112", after := #[{ on := 1, ground := .data }, { on := 2, ground := .data }, { on := 1, ground := .chain }], guard := none } : Oper)) rfl (fun v wk hj hD K hK => ?_)) ?_
                · obtain ⟨q1, h1, t1, r1⟩ : IsPt 1 (.mk 3 [b.t] []) (v 1) wk := hD 1 (by decide)
                  have h2 : v 2 = (y.v) := hD 2 (by decide)
                  simp only [h25_7D, h25_7E, putAll, Act.put, List.getD_cons_succ, List.getD_cons_zero, List.setIfInBounds_toArray, List.set_cons_zero, List.set_cons_succ, h1, h2] at hK ⊢
                  replace t1 := Lib.hid t1
                  go_simp
                  refine (k_test wk 1 (d + 20) q1 y r1 (hj.v (w.heap.size + 1, y) (by simp)).2 LS (by rw [t1.out]; exact VLS.out)).mono ?_
                  rintro e w2 ⟨rfl, hb⟩
                  exact hK.out _ _ hb rfl
                refine owes_cons (Owes.mk (o := ({ dst := some 17, op := .assign (.tmp 157), type := 4, pos := "law.go:112", after := #[{ on := 3, ground := .data }, { on := 3, ground := .chain }, { on := 0, ground := .phase }, { on := 1, ground := .phase }, { on := 2, ground := .phase }, { on := 3, ground := .phase }], guard := none } : Oper)) rfl (fun v wk hj hD K hK => ?_)) ?_
                · have h3 : v 3 = (.bool (LS)) := hD 3 (by decide)
                  simp only [h25_7D, h25_7E, putAll, Act.put, List.getD_cons_succ, List.getD_cons_zero, List.setIfInBounds_toArray, List.set_cons_zero, List.set_cons_succ, h3] at hK ⊢
                  go_simp
                  exact hK.out _ _ (Below.refl _ _) rfl
                exact owes_nil
              · intro vf w25 hj hr
                have hl : vf 4 = .bool (LS) := hr 4 (by decide)
                simp only [h25_7D, putAll, Act.put, List.getD_cons_succ, List.getD_cons_zero, List.setIfInBounds_toArray, List.set_cons_zero, List.set_cons_succ, hl]
                clear hl hr
                have Kw25 := Lib.hid hj
                clear hj
                go_upto_region 26 with fail
                refine region_phase_all [0, 1, 2, 3, 4] h26_6D h26_6E (fun w' => PS w (d + 20) [] [(w.heap.size + 1 + 1, b), (w.heap.size + 1, y), (w.heap.size, a)] w') (saidOf [Is (b.v), IsPt 1 (.mk 5 [b.t] []), Is (y.v), Is (.bool (MO)), Is (.bool (MO))]) 187 (by rfl) (by kernel_rfl) (by kernel_rfl) (by kernel_rfl) (fun _ _ h hb => h.next hb) (stays_said _ (stays_cons (Is.stays _) (stays_cons (IsPt.stays _ _) (stays_cons (Is.stays _) (stays_cons (Is.stays _) (stays_cons (Is.stays _) stays_nil)))))) (Kw25.out.next (below_drewN _ _ 1)) (by kernel_rfl) ?_ ?_
                · skip
                  refine owes_cons (Owes.mk (o := ({ dst := some 158, op := .load 27 (.tmp 5), type := 27, pos := "law.go:113", after := #[], guard := none } : Oper)) rfl (fun v wk hj hD K hK => ?_)) ?_
                  · simp only [h26_6D, h26_6E, putAll, Act.put, List.getD_cons_zero, List.setIfInBounds_toArray, List.set_cons_zero, List.set_cons_succ] at hK ⊢
                    obtain ⟨⟨a0, a1, a2, a3, a4, _⟩, _⟩ := hj.v (w.heap.size + 1 + 1, b) (by simp)
                    go_simp
                    exact hK.out _ _ (Below.refl _ _) rfl
                  refine owes_cons (Owes.mk (o := ({ dst := some 159, op := .call { callee := .value (.func 21), args := #[.const (.int .i64 5), .tmp 158], argTypes := #[3, 27] }, type := 25, pos := "law.go:113", after := #[{ on := 0, ground := .data }], guard := none } : Oper)) rfl (fun v wk hj hD K hK => ?_)) ?_
                  · have h0 : v 0 = (b.v) := hD 0 (by decide)
                    simp only [h26_6D, h26_6E, putAll, Act.put, List.getD_cons_succ, List.getD_cons_zero, List.setIfInBounds_toArray, List.set_cons_zero, List.set_cons_succ, h0] at hK ⊢
                    go_simp
                    refine (one_any wk (d + 20) 5 (by omega) b (hj.v (w.heap.size + 1 + 1, b) (by simp)).2).mono ?_
                    rintro e w2 ⟨z, rfl, tz, iz, hb⟩
                    exact hK.out _ _ hb ⟨z, rfl, tz, iz⟩
                  refine owes_cons (Owes.mk (o := ({ dst := some 160, op := .load 27 (.tmp 4), type := 27, pos := "law.go:113", after := #[], guard := none } : Oper)) rfl (fun v wk hj hD K hK => ?_)) ?_
                  · simp only [h26_6D, h26_6E, putAll, Act.put, List.getD_cons_succ, List.getD_cons_zero, List.setIfInBounds_toArray, List.set_cons_zero, List.set_cons_succ] at hK ⊢
                    obtain ⟨⟨a0, a1, a2, a3, a4, _⟩, _⟩ := hj.v (w.heap.size + 1, y) (by simp)
                    go_simp
                    exact hK.out _ _ (Below.refl _ _) rfl
                  refine owes_cons (Owes.mk (o := ({ dst := some 161, op := .call { callee := .value (.func 14), args := #[.tmp 159, .tmp 160], argTypes := #[25, 27] }, type := 4, pos := "law.go:113", after := #[{ on := 1, ground := .data }, { on := 2, ground := .data }, { on := 1, ground := .chain }], guard := none } : Oper)) rfl (fun v wk hj hD K hK => ?_)) ?_
                  · obtain ⟨q1, h1, t1, r1⟩ : IsPt 1 (.mk 5 [b.t] []) (v 1) wk := hD 1 (by decide)
                    have h2 : v 2 = (y.v) := hD 2 (by decide)
                    simp only [h26_6D, h26_6E, putAll, Act.put, List.getD_cons_succ, List.getD_cons_zero, List.setIfInBounds_toArray, List.set_cons_zero, List.set_cons_succ, h1, h2] at hK ⊢
                    replace t1 := Lib.hid t1
                    go_simp
                    refine (k_test wk 1 (d + 20) q1 y r1 (hj.v (w.heap.size + 1, y) (by simp)).2 MO (by rw [t1.out]; exact VMO.out)).mono ?_
                    rintro e w2 ⟨rfl, hb⟩
                    exact hK.out _ _ hb rfl
                  refine owes_cons (Owes.mk (o := ({ dst := some 18, op := .assign (.tmp 161), type := 4, pos := "law.go:113", after := #[{ on := 3, ground := .data }, { on := 3, ground := .chain }, { on := 0, ground := .phase }, { on := 1, ground := .phase }, { on := 2, ground := .phase }, { on := 3, ground := .phase }], guard := none } : Oper)) rfl (fun v wk hj hD K hK => ?_)) ?_
                  · have h3 : v 3 = (.bool (MO)) := hD 3 (by decide)
                    simp only [h26_6D, h26_6E, putAll, Act.put, List.getD_cons_succ, List.getD_cons_zero, List.setIfInBounds_toArray, List.set_cons_zero, List.set_cons_succ, h3] at hK ⊢
                    go_simp
                    exact hK.out _ _ (Below.refl _ _) rfl
                  exact owes_nil
                · intro vf w26 hj hr
                  have hl : vf 4 = .bool (MO) := hr 4 (by decide)
                  simp only [h26_6D, putAll, Act.put, List.getD_cons_succ, List.getD_cons_zero, List.setIfInBounds_toArray, List.set_cons_zero, List.set_cons_succ, hl]
                  clear hl hr
                  have Kw26 := Lib.hid hj
                  clear hj
                  rcases TQ.out with hq | hq | hq
                  · skip
                    subst hq
                    have eBT : BT = true := by rw [EBT.out, n0, m0]; rfl
                    have eIN : IN = true := by rw [EIN.out, n0, m0]; rfl
                    have eOU : OU = false := by rw [EOU.out, n0, m0]; rfl
                    have eLS : LS = true := by rw [ELS.out, m0]; rfl
                    have eMO : MO = false := by rw [EMO.out, m0]; rfl
                    subst eBT
                    subst eIN
                    subst eOU
                    subst eLS
                    subst eMO
                    go_wp2_with fail
                    refine (known_any w26).mono ?_
                    rintro e wk ⟨rfl, hbk⟩
                    have BK := Lib.hid (bnext Kw26.out.bel hbk)
                    clear hbk
                    go_wp2
                    go_ret
                    exact ⟨rfl, BK.out⟩
                  · skip
                    subst hq
                    have eBT : BT = false := by rw [EBT.out, n0, m0]; rfl
                    have eIN : IN = false := by rw [EIN.out, n0, m0]; rfl
                    have eOU : OU = false := by rw [EOU.out, n0, m0]; rfl
                    have eLS : LS = false := by rw [ELS.out, m0]; rfl
                    have eMO : MO = false := by rw [EMO.out, m0]; rfl
                    subst eBT
                    subst eIN
                    subst eOU
                    subst eLS
                    subst eMO
                    go_wp2_with fail
                    refine (known_any w26).mono ?_
                    rintro e wk ⟨rfl, hbk⟩
                    have BK := Lib.hid (bnext Kw26.out.bel hbk)
                    clear hbk
                    go_wp2
                    go_ret
                    exact ⟨rfl, BK.out⟩
                  · skip
                    subst hq
                    have eBT : BT = false := by rw [EBT.out, n0, m0]; rfl
                    have eIN : IN = false := by rw [EIN.out, n0, m0]; rfl
                    have eOU : OU = true := by rw [EOU.out, n0, m0]; rfl
                    have eLS : LS = false := by rw [ELS.out, m0]; rfl
                    have eMO : MO = true := by rw [EMO.out, m0]; rfl
                    subst eBT
                    subst eIN
                    subst eOU
                    subst eLS
                    subst eMO
                    go_wp2_with fail
                    refine (known_any w26).mono ?_
                    rintro e wk ⟨rfl, hbk⟩
                    have BK := Lib.hid (bnext Kw26.out.bel hbk)
                    clear hbk
                    go_wp2
                    go_ret
                    exact ⟨rfl, BK.out⟩
end Go.Proofs.Ytiiccefnfepccaa
