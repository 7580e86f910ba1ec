/- PredOthers: the walk. -/
import Derived.Test.YtiiccefnfepccaaPM
import Derived.Test.YtiiccefnfepccaaPL
import Derived.Deep.Cut
namespace Go.Proofs.Ytiiccefnfepccaa
set_option maxRecDepth 100000
open Go.RowKit Go.Sort

/-- Predicates and values in their boxes. -/
structure PS (w0 : World) (d : Nat) (bs : List (Nat × Pt)) (vs : List (Nat × At)) (w : World) : Prop where
  p : ∀ b ∈ bs, BP w b.1 b.2 ∧ b.2.In w d
  v : ∀ b ∈ vs, Bx w b.1 b.2 ∧ b.2.In w d
  bel : Below w0.heap.size w0 w
theorem PS.next {w0 : World} {d : Nat} {bs : List (Nat × Pt)} {vs : List (Nat × At)} {a b : World} (h : PS w0 d bs vs a) (hb : Below a.heap.size a b) : PS w0 d bs vs b :=
  ⟨fun q hq => ⟨(h.p q hq).1.next hb, (h.p q hq).2.next hb⟩, fun q hq => ⟨(h.v q hq).1.next hb, (h.v q hq).2.next hb⟩, bnext h.bel hb⟩
theorem PS.up {w0 : World} {d d' : Nat} {bs : List (Nat × Pt)} {vs : List (Nat × At)} {w : World} (h : PS w0 d bs vs w) (hd : d ≤ d') : PS w0 d' bs vs w :=
  ⟨fun q hq => ⟨(h.p q hq).1, (h.p q hq).2.up hd⟩, fun q hq => ⟨(h.v q hq).1, (h.v q hq).2.up hd⟩, h.bel⟩
theorem PS.start (w : World) (d : Nat) : PS w d [] [] w := ⟨(by intro _ h; cases h), (by intro _ h; cases h), Below.refl _ _⟩
theorem PS.addP {w0 : World} {d : Nat} {bs : List (Nat × Pt)} {vs : List (Nat × At)} {w : World} (h : PS w0 d bs vs w) (x : Pt) (hx : x.In w d) :
    PS w0 d ((w.heap.size, x) :: bs) vs (w.alloc (.cells #[.int .i64 x.t.k, .slice x.A x.t.v.length x.c, .slice x.A' x.t.p.length x.c'] 25)) := by
  have hb := below_new w (.cells #[.int .i64 x.t.k, .slice x.A x.t.v.length x.c, .slice x.A' x.t.p.length x.c'] 25)
  have n := h.next hb
  refine ⟨fun q hq => ?_, n.v, n.bel⟩
  rcases List.mem_cons.1 hq with rfl | hq
  · exact ⟨BP.new w x, hx.next hb⟩
  · exact n.p q hq
theorem PS.addV {w0 : World} {d : Nat} {bs : List (Nat × Pt)} {vs : List (Nat × At)} {w : World} (h : PS w0 d bs vs w) (y : At) (hy : y.In w d) :
    PS w0 d bs ((w.heap.size, y) :: vs) (w.alloc (.cells #[.int .i64 y.t.k, .int .i64 y.t.n, .string y.t.s, .slice y.A y.t.l.length y.c, .slice y.A' y.t.m.length y.c'] 27)) := by
  have hb := below_new w (.cells #[.int .i64 y.t.k, .int .i64 y.t.n, .string y.t.s, .slice y.A y.t.l.length y.c, .slice y.A' y.t.m.length y.c'] 27)
  have n := h.next hb
  refine ⟨n.p, fun q hq => ?_, n.bel⟩
  rcases List.mem_cons.1 hq with rfl | hq
  · exact ⟨Bx.new w y, hy.next hb⟩
  · exact n.v q hq

theorem row_one' (w : World) (d : Nat) (y : At) (hy : y.In w d) : Rw (w.alloc (.cells #[.int .i64 y.t.k, .int .i64 y.t.n, .string y.t.s, .slice y.A y.t.l.length y.c, .slice y.A' y.t.m.length y.c'] 27)) 0 (w.alloc (.cells #[.int .i64 y.t.k, .int .i64 y.t.n, .string y.t.s, .slice y.A y.t.l.length y.c, .slice y.A' y.t.m.length y.c'] 27)).heap.size d (some ⟨w.heap.size, 0, none⟩) 1 [y.t] :=
  row_lay w d [y] (by intro x hx; rw [List.mem_singleton.1 hx]; exact hy) (by simp)
theorem any_congr' {α : Type} {f g : α → Bool} : ∀ (l : List α), (∀ x ∈ l, f x = g x) → l.any f = l.any g
  | [], _ => rfl
  | x :: l, h => by rw [List.any_cons, List.any_cons, h x (by simp), any_congr' l (fun y hy => h y (by simp [hy]))]
theorem one_pred' {t : P} (h : fitsP t = true) (h1 : t.k = 12) : t.p.length = 1 := by
  unfold fitsP fitsN at h
  rw [h1] at h
  simp at h; omega

/-- What holds does not hang on how much further one might look. -/
theorem holdV_up : ∀ (r s : Nat) (v : V) (t : P), okP r t = true → r ≤ s → holdV s v t = holdV r v t
  | 0, _, _, _, h, _ => by simp [okP] at h
  | r + 1, 0, _, _, _, hr => absurd hr (by omega)
  | r + 1, s + 1, v, t, h, hr => by
    have h' : (fitsP t && t.v.all (okV 12) && t.p.all (okP r)) = true := h
    simp only [Bool.and_eq_true] at h'
    have hp := List.all_eq_true.1 h'.2
    have e1 : t.p.any (holdV s v) = t.p.any (holdV r v) := any_congr' t.p (fun x hx => holdV_up r s v x (hp x hx) (by omega))
    have e2 : t.p.any (fun x => !holdV s v x) = t.p.any (fun x => !holdV r v x) := any_congr' t.p (fun x hx => by rw [holdV_up r s v x (hp x hx) (by omega)])
    rw [holdV, holdV, e1, e2]
theorem hold_neg : ∀ (r : Nat) (v : V) (t : P), okP r t = true → holdV (r + 1) v (negP r t) = !holdV r v t
  | 0, _, _, h => by simp [okP] at h
  | r + 1, v, t, h => by
    have h' : (fitsP t && t.v.all (okV 12) && t.p.all (okP r)) = true := h
    simp only [Bool.and_eq_true] at h'
    have hp := List.all_eq_true.1 h'.2
    have fk := fits_kind h'.1.1
    by_cases h1 : t.k = 1 ∨ t.k = 2 ∨ t.k = 10 ∨ t.k = 11
    · rw [negP, if_pos h1]
      rcases h1 with e | e | e | e
      all_goals
        rw [holdV, holdV, e]
        simp [P.k, P.v, opp]
    · rw [negP, if_neg h1]
      by_cases h2 : t.k = 13 ∨ t.k = 14
      · rw [if_pos h2]
        have e1 : (t.p.map (negP r)).any (holdV (r + 1) v) = t.p.any (fun x => !holdV r v x) := by
          rw [List.any_map]; exact any_congr' t.p (fun x hx => hold_neg r v x (hp x hx))
        have e2 : (t.p.map (negP r)).any (fun x => !holdV (r + 1) v x) = t.p.any (fun x => holdV r v x) := by
          rw [List.any_map]; exact any_congr' t.p (fun x hx => by show (!holdV (r + 1) v (negP r x)) = _; rw [hold_neg r v x (hp x hx), Bool.not_not])
        rcases h2 with e | e
        · rw [e, show holdV (r + 2) v (.mk (opp 13) [] (t.p.map (negP r))) = (t.p.map (negP r)).any (holdV (r + 1) v) from by rw [holdV]; simp [P.k, P.p, opp], e1]
          rw [holdV]; simp [e]
        · rw [e, show holdV (r + 2) v (.mk (opp 14) [] (t.p.map (negP r))) = !(t.p.map (negP r)).any (fun x => !holdV (r + 1) v x) from by rw [holdV]; simp [P.k, P.p, opp], e2]
          rw [holdV]; simp [e]
      · rw [if_neg h2]
        by_cases h3 : t.k = 12
        · rw [if_pos h3]
          have hl := one_pred' h'.1.1 h3
          match hq : t.p, hl with
          | [z], _ =>
            have oz := hp z (by rw [hq]; simp)
            show holdV (r + 2) v z = _
            rw [holdV_up r (r + 2) v z oz (by omega), holdV]
            simp [h3, hq]
        · rw [if_neg h3, holdV]
          simp [P.k, P.p]

/-- A negated predicate holds just where the other one does not. -/
theorem test_neg {t : P} (v : V) (h : okP 12 t = true) (hn : okP 12 (ngP t) = true) : testV (ngP t) v = !testV t v := by
  have e : ngP t = negP 12 t := by unfold ngP; rw [if_pos h]
  unfold testV
  rw [hn, h, e]
  rw [e] at hn
  have := hold_neg 12 v t h
  rw [holdV_up 12 13 v _ hn (by omega)] at this
  rw [this]; rfl
theorem test_not {t : P} (v : V) (h : okP 12 t = true) (hn : okP 12 (.mk 12 [] [t]) = true) : testV (.mk 12 [] [t]) v = !testV t v := by
  have h11 : okP 11 t = true := by
    have q : (fitsP (.mk 12 [] [t]) && true && (okP 11 t && true)) = true := hn
    simp only [Bool.and_eq_true] at q
    exact q.2.1
  unfold testV
  rw [hn, h, show holdV 12 v (.mk 12 [] [t]) = !holdV 11 v t from by rw [holdV]; simp [P.k, P.p], holdV_up 11 12 v t h11 (by omega)]; rfl
theorem ng_not {t : P} (hn : okP 12 (.mk 12 [] [t]) = true) : ngP (.mk 12 [] [t]) = t := by
  unfold ngP
  rw [if_pos hn, negP]
  simp [P.k, P.p]
def o10fD : Nat → Tmp := fun j => [54, 55, 56, 57, 58, 59, 60, 61, 62, 63, 64, 65, 66, 67, 68, 69, 70, 71, 72, 73, 74, 4].getD j 0
def o10fE : Nat → List Nat := fun j => [[], [0], [1], [2], [3], [3], [3, 4, 5], [3], [3], [3, 7, 8], [3, 6, 9], [3, 10], [11], [11, 12], [11], [11, 13, 14], [3, 11, 15], [3, 16], [17], [18], [18, 19], [20]].getD j []
def o10tD : Nat → Tmp := fun j => [54, 55, 56, 57, 58, 59, 60, 61, 62, 63, 64, 65, 66, 67, 68, 69, 70, 71, 72, 73, 74, 4].getD j 0
def o10tE : Nat → List Nat := fun j => [[], [0], [1], [2], [3], [3], [3, 4, 5], [3], [3], [3, 7, 8], [3, 6, 9], [3, 10], [11], [11, 12], [11], [11, 13, 14], [3, 11, 15], [3, 16], [17], [18], [18, 19], [20]].getD j []
def o4fD : Nat → Tmp := fun j => [20, 21, 22, 23, 24, 25, 26, 27, 28, 29, 30, 31].getD j 0
def o4fE : Nat → List Nat := fun j => [[], [0], [1], [2], [3], [3], [3, 4, 5], [3], [3], [3, 7, 8], [3, 6, 9], [3, 10]].getD j []
def o4tD : Nat → Tmp := fun j => [20, 21, 22, 23, 24, 25, 26, 27, 28, 29, 30, 31].getD j 0
def o4tE : Nat → List Nat := fun j => [[], [0], [1], [2], [3], [3], [3, 4, 5], [3], [3], [3, 7, 8], [3, 6, 9], [3, 10]].getD j []
def o7ffD : Nat → Tmp := fun j => [34, 35, 36, 37, 38, 39, 40, 41, 42, 43, 44, 45, 46, 47, 48, 49, 50].getD j 0
def o7ffE : Nat → List Nat := fun j => [[], [0], [1], [2], [3], [3, 4], [3, 5], [3, 6], [7], [8], [8], [8, 9, 10], [8], [8], [8, 12, 13], [8, 11, 14], [8, 15]].getD j []
def o7tfD : Nat → Tmp := fun j => [34, 35, 36, 37, 38, 39, 40, 41, 42, 43, 44, 45, 46, 47, 48, 49, 50].getD j 0
def o7tfE : Nat → List Nat := fun j => [[], [0], [1], [2], [3], [3, 4], [3, 5], [3, 6], [7], [8], [8], [8, 9, 10], [8], [8], [8, 12, 13], [8, 11, 14], [8, 15]].getD j []
def o7ttD : Nat → Tmp := fun j => [34, 35, 36, 37, 38, 39, 40, 41, 42, 43, 44, 45, 46, 47, 48, 49, 50].getD j 0
def o7ttE : Nat → List Nat := fun j => [[], [0], [1], [2], [3], [3, 4], [3, 5], [3, 6], [7], [8], [8], [8, 9, 10], [8], [8], [8, 12, 13], [8, 11, 14], [8, 15]].getD j []

set_option maxHeartbeats 12800000 in
theorem others_law (w : World) (d : Nat) (x : Pt) (y : At) (hx : x.In w d) (hy : y.In w d) : Calls Try.prog 5 #[x.val, y.v] w fun e w' => e = .returned (.bool true) ∧ Below w.heap.size w w' := by
  have HXI := Lib.hid (hx.up (show d ≤ d + 40 by omega))
  have HYI := Lib.hid (hy.up (show d ≤ d + 40 by omega))
  clear hx hy
  unfold Pt.val At.v
  go_enter Try.func5, Try.ntmps5
  go_upto_region 1 with fail
  have k0 := PS.addP (PS.start w (d + 40)) x HXI.out
  have k0' := PS.addV k0 y (HYI.out.next (below_new _ _))
  rw [size_alloc] at k0'
  generalize hW : World.alloc (World.alloc _ _) _ = W at k0' ⊢
  clear hW k0
  have K := Lib.hid k0'
  obtain ⟨⟨a0, a1, a2, _⟩, i1⟩ := K.out.p (w.heap.size, x) (by simp)
  obtain ⟨⟨y0, y1, y2, y3, y4, _⟩, i2⟩ := K.out.v (w.heap.size + 1, y) (by simp)
  have hb := below_new W (.cells #[.int .i64 y.t.k, .int .i64 y.t.n, .string y.t.s, .slice y.A y.t.l.length y.c, .slice y.A' y.t.m.length y.c'] 27)
  have RO := Lib.hid (row_one' W (d + 40) y i2)
  have K1 := Lib.hid (K.out.next hb)
  clear i1 i2 hb k0'
  go_wp2_with fail
  refine (much_any _ (d + 40) (d + 40) x ((K1.out.p (w.heap.size, x) (by simp)).2) _ 1 [y.t] RO.out).mono ?_
  rintro e w1 ⟨m, rfl, hb⟩
  have KF := Lib.hid (K1.out.next hb)
  clear a0 a1 a2 y0 y1 y2 y3 y4 hb K1 RO K HXI HYI
  cases m
  case true =>
    go_wp2_with fail
    refine (known_any w1).mono ?_
    rintro e wk ⟨rfl, hbk⟩
    have BK := Lib.hid (bnext KF.out.bel hbk)
    clear hbk
    go_wp2
    go_ret
    exact ⟨rfl, BK.out⟩
  obtain ⟨⟨a0, a1, a2, _⟩, i1⟩ := KF.out.p (w.heap.size, x) (by simp)
  go_wp2_with fail
  refine (pcheck_any w1 (d + 40) x i1).mono ?_
  rintro e w2 ⟨rfl, hb⟩
  have KX := Lib.hid (KF.out.next hb)
  clear a0 a1 a2 i1 hb KF
  cases hX : okP 12 x.t
  case false =>
    go_wp2_with fail
    refine (known_any w2).mono ?_
    rintro e wk ⟨rfl, hbk⟩
    have BK := Lib.hid (bnext KX.out.bel hbk)
    clear hbk
    go_wp2
    go_ret
    exact ⟨rfl, BK.out⟩
  have HX := Lib.hid hX
  clear hX
  obtain ⟨⟨a0, a1, a2, _⟩, i1⟩ := KX.out.p (w.heap.size, x) (by simp)
  go_wp2_with fail
  refine (negate_any w2 (d + 40) x i1).mono ?_
  intro e w3 hn
  obtain ⟨a, rfl, ta, ia, hb⟩ := hn.one
  have HA := Lib.hid ta
  have IA := Lib.hid (ia.up (show 26 ≤ d + 40 by omega))
  have KY := Lib.hid (KX.out.next hb)
  clear a0 a1 a2 i1 hb KX hn ta ia
  go_upto_region 4 with fail
  have k := KY.out.addP a IA.out
  generalize hW : World.alloc w3 _ = w4 at k ⊢
  clear hW
  have K2 := Lib.hid k
  clear k KY IA
  generalize w3.heap.size = ga at *
  go_cut [31] from 8 (fun s31 wx => s31 = .bool false ∧ PS w (d + 40) [(ga, a), (w.heap.size, x)] [(w.heap.size + 1, y)] wx)
  case first =>
    cases hA : okP 12 a.t
    · skip
      refine region_phase_all [0, 1, 2, 3, 4, 5, 6, 7, 8, 9, 10, 11] o4fD o4fE (fun w' => PS w (d + 40) [(ga, a), (w.heap.size, x)] [(w.heap.size + 1, y)] w') (saidOf [Is (a.val), Is (.int .i64 2), Is (.bool (false)), Is (.bool (false)), Is undef, Is undef, Is undef, Is undef, Is undef, Is undef, Is undef, Is (.bool (false))]) 75 (by rfl) (by kernel_rfl) (by kernel_rfl) (by kernel_rfl) (fun _ _ h hb => h.next hb) (stays_said _ (stays_cons (Is.stays _) (stays_cons (Is.stays _) (stays_cons (Is.stays _) (stays_cons (Is.stays _) (stays_cons (Is.stays _) (stays_cons (Is.stays _) (stays_cons (Is.stays _) (stays_cons (Is.stays _) (stays_cons (Is.stays _) (stays_cons (Is.stays _) (stays_cons (Is.stays _) (stays_cons (Is.stays _) stays_nil))))))))))))) (K2.out.next (below_drewN _ _ 1)) (by kernel_rfl) ?_ ?_
      · skip
        refine owes_cons (Owes.mk (o := ({ dst := some 20, op := .load 25 (.tmp 5), type := 25, pos := "law.go:68", after := #[], guard := none } : Oper)) rfl (fun v wk hj hD K hK => ?_)) ?_
        · simp only [o4fD, o4fE, putAll, Act.put, List.getD_cons_zero, List.setIfInBounds_toArray, List.set_cons_zero, List.set_cons_succ] at hK ⊢
          obtain ⟨⟨a0, a1, a2, _⟩, _⟩ := hj.p (ga, a) (by simp)
          go_simp
          exact hK.out _ _ (Below.refl _ _) rfl
        refine owes_cons (Owes.mk (o := ({ dst := some 21, op := .call { callee := .value (.func 12), args := #[.tmp 20], argTypes := #[25] }, type := 30, pos := "law.go:68", after := #[{ on := 0, ground := .data }], guard := none } : Oper)) rfl (fun v wk hj hD K hK => ?_)) ?_
        · have h0 : v 0 = (a.val) := hD 0 (by decide)
          simp only [o4fD, o4fE, putAll, Act.put, List.getD_cons_succ, List.getD_cons_zero, List.setIfInBounds_toArray, List.set_cons_zero, List.set_cons_succ, h0] at hK ⊢
          go_simp
          refine (k_check wk (d + 40) a (hj.p (ga, a) (by simp)).2 2 (by rw [hA]; rfl)).mono ?_
          rintro e w2 ⟨rfl, hb⟩
          exact hK.out _ _ hb rfl
        refine owes_cons (Owes.mk (o := ({ dst := some 22, op := .binOp .eql 30 (.tmp 21) (.const (.int .i64 0)) 30, type := 4, pos := "law.go:68", after := #[{ on := 1, ground := .data }], guard := none } : Oper)) rfl (fun v wk hj hD K hK => ?_)) ?_
        · have h1 : v 1 = (.int .i64 2) := hD 1 (by decide)
          simp only [o4fD, o4fE, putAll, Act.put, List.getD_cons_succ, List.getD_cons_zero, List.setIfInBounds_toArray, List.set_cons_zero, List.set_cons_succ, h1] at hK ⊢
          go_simp
          exact hK.out _ _ (Below.refl _ _) rfl
        refine owes_cons (Owes.mk (o := ({ dst := some 23, op := .move (.tmp 22), type := 4, pos := "law.go:68", after := #[{ on := 2, ground := .data }, { on := 1, ground := .chain }], guard := none } : Oper)) rfl (fun v wk hj hD K hK => ?_)) ?_
        · have h2 : v 2 = (.bool (false)) := hD 2 (by decide)
          simp only [o4fD, o4fE, putAll, Act.put, List.getD_cons_succ, List.getD_cons_zero, List.setIfInBounds_toArray, List.set_cons_zero, List.set_cons_succ, h2] at hK ⊢
          go_simp
          exact hK.out _ _ (Below.refl _ _) rfl
        refine owes_cons (Owes.mk (o := ({ dst := some 24, op := .load 25 (.tmp 5), type := 25, pos := "law.go:68", after := #[{ on := 3, ground := .guard }], guard := some (3, true) } : Oper)) rfl (fun v wk hj hD K hK => ?_)) ?_
        · have h3 : v 3 = (.bool (false)) := hD 3 (by decide)
          simp only [o4fD, o4fE, putAll, Act.put, List.getD_cons_succ, List.getD_cons_zero, List.setIfInBounds_toArray, List.set_cons_zero, List.set_cons_succ, h3] at hK ⊢
          go_simp
          exact hK.out _ _ (Below.refl _ _) rfl
        refine owes_cons (Owes.mk (o := ({ dst := some 25, op := .load 27 (.tmp 3), type := 27, pos := "law.go:68", after := #[{ on := 3, ground := .guard }], guard := some (3, true) } : Oper)) rfl (fun v wk hj hD K hK => ?_)) ?_
        · have h3 : v 3 = (.bool (false)) := hD 3 (by decide)
          simp only [o4fD, o4fE, putAll, Act.put, List.getD_cons_succ, List.getD_cons_zero, List.setIfInBounds_toArray, List.set_cons_zero, List.set_cons_succ, h3] at hK ⊢
          go_simp
          exact hK.out _ _ (Below.refl _ _) rfl
        refine owes_cons (Owes.mk (o := ({ dst := some 26, op := .call { callee := .value (.func 14), args := #[.tmp 24, .tmp 25], argTypes := #[25, 27] }, type := 4, pos := "law.go:68", after := #[{ on := 4, ground := .data }, { on := 5, ground := .data }, { on := 3, ground := .chain }, { on := 3, ground := .guard }], guard := some (3, true) } : Oper)) rfl (fun v wk hj hD K hK => ?_)) ?_
        · have h3 : v 3 = (.bool (false)) := hD 3 (by decide)
          have h4 : v 4 = undef := hD 4 (by decide)
          have h5 : v 5 = undef := hD 5 (by decide)
          simp only [o4fD, o4fE, putAll, Act.put, List.getD_cons_succ, List.getD_cons_zero, List.setIfInBounds_toArray, List.set_cons_zero, List.set_cons_succ, h3, h4, h5] at hK ⊢
          go_simp
          exact hK.out _ _ (Below.refl _ _) rfl
        refine owes_cons (Owes.mk (o := ({ dst := some 27, op := .load 25 (.tmp 2), type := 25, pos := "law.go:68", after := #[{ on := 3, ground := .guard }], guard := some (3, true) } : Oper)) rfl (fun v wk hj hD K hK => ?_)) ?_
        · have h3 : v 3 = (.bool (false)) := hD 3 (by decide)
          simp only [o4fD, o4fE, putAll, Act.put, List.getD_cons_succ, List.getD_cons_zero, List.setIfInBounds_toArray, List.set_cons_zero, List.set_cons_succ, h3] at hK ⊢
          go_simp
          exact hK.out _ _ (Below.refl _ _) rfl
        refine owes_cons (Owes.mk (o := ({ dst := some 28, op := .load 27 (.tmp 3), type := 27, pos := "law.go:68", after := #[{ on := 3, ground := .guard }], guard := some (3, true) } : Oper)) rfl (fun v wk hj hD K hK => ?_)) ?_
        · have h3 : v 3 = (.bool (false)) := hD 3 (by decide)
          simp only [o4fD, o4fE, putAll, Act.put, List.getD_cons_succ, List.getD_cons_zero, List.setIfInBounds_toArray, List.set_cons_zero, List.set_cons_succ, h3] at hK ⊢
          go_simp
          exact hK.out _ _ (Below.refl _ _) rfl
        refine owes_cons (Owes.mk (o := ({ dst := some 29, op := .call { callee := .value (.func 14), args := #[.tmp 27, .tmp 28], argTypes := #[25, 27] }, type := 4, pos := "law.go:68", after := #[{ on := 7, ground := .data }, { on := 8, ground := .data }, { on := 6, ground := .chain }, { on := 3, ground := .guard }], guard := some (3, true) } : Oper)) rfl (fun v wk hj hD K hK => ?_)) ?_
        · have h3 : v 3 = (.bool (false)) := hD 3 (by decide)
          have h7 : v 7 = undef := hD 7 (by decide)
          have h8 : v 8 = undef := hD 8 (by decide)
          simp only [o4fD, o4fE, putAll, Act.put, List.getD_cons_succ, List.getD_cons_zero, List.setIfInBounds_toArray, List.set_cons_zero, List.set_cons_succ, h3, h7, h8] at hK ⊢
          go_simp
          exact hK.out _ _ (Below.refl _ _) rfl
        refine owes_cons (Owes.mk (o := ({ dst := some 30, op := .binOp .eql 4 (.tmp 26) (.tmp 29) 4, type := 4, pos := "law.go:68", after := #[{ on := 6, ground := .data }, { on := 9, ground := .data }, { on := 3, ground := .guard }], guard := some (3, true) } : Oper)) rfl (fun v wk hj hD K hK => ?_)) ?_
        · have h3 : v 3 = (.bool (false)) := hD 3 (by decide)
          have h6 : v 6 = undef := hD 6 (by decide)
          have h9 : v 9 = undef := hD 9 (by decide)
          simp only [o4fD, o4fE, putAll, Act.put, List.getD_cons_succ, List.getD_cons_zero, List.setIfInBounds_toArray, List.set_cons_zero, List.set_cons_succ, h3, h6, h9] at hK ⊢
          go_simp
          exact hK.out _ _ (Below.refl _ _) rfl
        refine owes_cons (Owes.mk (o := ({ dst := some 31, op := .pick (.tmp 23) (.tmp 30) (.const (.bool false)), type := 4, pos := "law.go:68", after := #[{ on := 3, ground := .data }, { on := 10, ground := .data }], guard := none } : Oper)) rfl (fun v wk hj hD K hK => ?_)) ?_
        · have h3 : v 3 = (.bool (false)) := hD 3 (by decide)
          have h10 : v 10 = undef := hD 10 (by decide)
          simp only [o4fD, o4fE, putAll, Act.put, List.getD_cons_succ, List.getD_cons_zero, List.setIfInBounds_toArray, List.set_cons_zero, List.set_cons_succ, h3, h10] at hK ⊢
          go_simp
          exact hK.out _ _ (Below.refl _ _) rfl
        exact owes_nil
      · intro v wf hj hr
        have hl : v 11 = .bool false := hr 11 (by decide)
        simp only [o4fD, putAll, Act.put, List.getD_cons_succ, List.getD_cons_zero, List.setIfInBounds_toArray, List.set_cons_zero, List.set_cons_succ, hl]
        clear hl hr
        have HJ := Lib.hid hj
        clear hj
        go_wp2_with fail
        go_meet
        exact ⟨rfl, HJ.out⟩
    · skip
      refine region_phase_all [0, 1, 2, 3, 4, 5, 6, 7, 8, 9, 10, 11] o4tD o4tE (fun w' => PS w (d + 40) [(ga, a), (w.heap.size, x)] [(w.heap.size + 1, y)] w') (saidOf [Is (a.val), Is (.int .i64 0), Is (.bool (true)), Is (.bool (true)), Is (a.val), Is (y.v), Is (.bool (!testV x.t y.t)), Is (x.val), Is (y.v), Is (.bool (testV x.t y.t)), Is (.bool (false)), Is (.bool (false))]) 75 (by rfl) (by kernel_rfl) (by kernel_rfl) (by kernel_rfl) (fun _ _ h hb => h.next hb) (stays_said _ (stays_cons (Is.stays _) (stays_cons (Is.stays _) (stays_cons (Is.stays _) (stays_cons (Is.stays _) (stays_cons (Is.stays _) (stays_cons (Is.stays _) (stays_cons (Is.stays _) (stays_cons (Is.stays _) (stays_cons (Is.stays _) (stays_cons (Is.stays _) (stays_cons (Is.stays _) (stays_cons (Is.stays _) stays_nil))))))))))))) (K2.out.next (below_drewN _ _ 1)) (by kernel_rfl) ?_ ?_
      · skip
        refine owes_cons (Owes.mk (o := ({ dst := some 20, op := .load 25 (.tmp 5), type := 25, pos := "law.go:68", after := #[], guard := none } : Oper)) rfl (fun v wk hj hD K hK => ?_)) ?_
        · simp only [o4tD, o4tE, putAll, Act.put, List.getD_cons_zero, List.setIfInBounds_toArray, List.set_cons_zero, List.set_cons_succ] at hK ⊢
          obtain ⟨⟨a0, a1, a2, _⟩, _⟩ := hj.p (ga, a) (by simp)
          go_simp
          exact hK.out _ _ (Below.refl _ _) rfl
        refine owes_cons (Owes.mk (o := ({ dst := some 21, op := .call { callee := .value (.func 12), args := #[.tmp 20], argTypes := #[25] }, type := 30, pos := "law.go:68", after := #[{ on := 0, ground := .data }], guard := none } : Oper)) rfl (fun v wk hj hD K hK => ?_)) ?_
        · have h0 : v 0 = (a.val) := hD 0 (by decide)
          simp only [o4tD, o4tE, putAll, Act.put, List.getD_cons_succ, List.getD_cons_zero, List.setIfInBounds_toArray, List.set_cons_zero, List.set_cons_succ, h0] at hK ⊢
          go_simp
          refine (k_check wk (d + 40) a (hj.p (ga, a) (by simp)).2 0 (by rw [hA]; rfl)).mono ?_
          rintro e w2 ⟨rfl, hb⟩
          exact hK.out _ _ hb rfl
        refine owes_cons (Owes.mk (o := ({ dst := some 22, op := .binOp .eql 30 (.tmp 21) (.const (.int .i64 0)) 30, type := 4, pos := "law.go:68", after := #[{ on := 1, ground := .data }], guard := none } : Oper)) rfl (fun v wk hj hD K hK => ?_)) ?_
        · have h1 : v 1 = (.int .i64 0) := hD 1 (by decide)
          simp only [o4tD, o4tE, putAll, Act.put, List.getD_cons_succ, List.getD_cons_zero, List.setIfInBounds_toArray, List.set_cons_zero, List.set_cons_succ, h1] at hK ⊢
          go_simp
          exact hK.out _ _ (Below.refl _ _) rfl
        refine owes_cons (Owes.mk (o := ({ dst := some 23, op := .move (.tmp 22), type := 4, pos := "law.go:68", after := #[{ on := 2, ground := .data }, { on := 1, ground := .chain }], guard := none } : Oper)) rfl (fun v wk hj hD K hK => ?_)) ?_
        · have h2 : v 2 = (.bool (true)) := hD 2 (by decide)
          simp only [o4tD, o4tE, putAll, Act.put, List.getD_cons_succ, List.getD_cons_zero, List.setIfInBounds_toArray, List.set_cons_zero, List.set_cons_succ, h2] at hK ⊢
          go_simp
          exact hK.out _ _ (Below.refl _ _) rfl
        refine owes_cons (Owes.mk (o := ({ dst := some 24, op := .load 25 (.tmp 5), type := 25, pos := "law.go:68", after := #[{ on := 3, ground := .guard }], guard := some (3, true) } : Oper)) rfl (fun v wk hj hD K hK => ?_)) ?_
        · have h3 : v 3 = (.bool (true)) := hD 3 (by decide)
          simp only [o4tD, o4tE, putAll, Act.put, List.getD_cons_succ, List.getD_cons_zero, List.setIfInBounds_toArray, List.set_cons_zero, List.set_cons_succ, h3] at hK ⊢
          obtain ⟨⟨a0, a1, a2, _⟩, _⟩ := hj.p (ga, a) (by simp)
          go_simp
          exact hK.out _ _ (Below.refl _ _) rfl
        refine owes_cons (Owes.mk (o := ({ dst := some 25, op := .load 27 (.tmp 3), type := 27, pos := "law.go:68", after := #[{ on := 3, ground := .guard }], guard := some (3, true) } : Oper)) rfl (fun v wk hj hD K hK => ?_)) ?_
        · have h3 : v 3 = (.bool (true)) := hD 3 (by decide)
          simp only [o4tD, o4tE, putAll, Act.put, List.getD_cons_succ, List.getD_cons_zero, List.setIfInBounds_toArray, List.set_cons_zero, List.set_cons_succ, h3] at hK ⊢
          obtain ⟨⟨a0, a1, a2, a3, a4, _⟩, _⟩ := hj.v (w.heap.size + 1, y) (by simp)
          go_simp
          exact hK.out _ _ (Below.refl _ _) rfl
        refine owes_cons (Owes.mk (o := ({ dst := some 26, op := .call { callee := .value (.func 14), args := #[.tmp 24, .tmp 25], argTypes := #[25, 27] }, type := 4, pos := "law.go:68", after := #[{ on := 4, ground := .data }, { on := 5, ground := .data }, { on := 3, ground := .chain }, { on := 3, ground := .guard }], guard := some (3, true) } : Oper)) rfl (fun v wk hj hD K hK => ?_)) ?_
        · have h3 : v 3 = (.bool (true)) := hD 3 (by decide)
          have h4 : v 4 = (a.val) := hD 4 (by decide)
          have h5 : v 5 = (y.v) := hD 5 (by decide)
          simp only [o4tD, o4tE, putAll, Act.put, List.getD_cons_succ, List.getD_cons_zero, List.setIfInBounds_toArray, List.set_cons_zero, List.set_cons_succ, h3, h4, h5] at hK ⊢
          go_simp
          refine (k_test wk (d + 40) (d + 40) a y (hj.p (ga, a) (by simp)).2 (hj.v (w.heap.size + 1, y) (by simp)).2 (!testV x.t y.t) (by rw [HA.out, test_neg y.t HX.out (by rw [← HA.out]; exact hA)])).mono ?_
          rintro e w2 ⟨rfl, hb⟩
          exact hK.out _ _ hb rfl
        refine owes_cons (Owes.mk (o := ({ dst := some 27, op := .load 25 (.tmp 2), type := 25, pos := "law.go:68", after := #[{ on := 3, ground := .guard }], guard := some (3, true) } : Oper)) rfl (fun v wk hj hD K hK => ?_)) ?_
        · have h3 : v 3 = (.bool (true)) := hD 3 (by decide)
          simp only [o4tD, o4tE, putAll, Act.put, List.getD_cons_succ, List.getD_cons_zero, List.setIfInBounds_toArray, List.set_cons_zero, List.set_cons_succ, h3] at hK ⊢
          obtain ⟨⟨a0, a1, a2, _⟩, _⟩ := hj.p (w.heap.size, x) (by simp)
          go_simp
          exact hK.out _ _ (Below.refl _ _) rfl
        refine owes_cons (Owes.mk (o := ({ dst := some 28, op := .load 27 (.tmp 3), type := 27, pos := "law.go:68", after := #[{ on := 3, ground := .guard }], guard := some (3, true) } : Oper)) rfl (fun v wk hj hD K hK => ?_)) ?_
        · have h3 : v 3 = (.bool (true)) := hD 3 (by decide)
          simp only [o4tD, o4tE, putAll, Act.put, List.getD_cons_succ, List.getD_cons_zero, List.setIfInBounds_toArray, List.set_cons_zero, List.set_cons_succ, h3] at hK ⊢
          obtain ⟨⟨a0, a1, a2, a3, a4, _⟩, _⟩ := hj.v (w.heap.size + 1, y) (by simp)
          go_simp
          exact hK.out _ _ (Below.refl _ _) rfl
        refine owes_cons (Owes.mk (o := ({ dst := some 29, op := .call { callee := .value (.func 14), args := #[.tmp 27, .tmp 28], argTypes := #[25, 27] }, type := 4, pos := "law.go:68", after := #[{ on := 7, ground := .data }, { on := 8, ground := .data }, { on := 6, ground := .chain }, { on := 3, ground := .guard }], guard := some (3, true) } : Oper)) rfl (fun v wk hj hD K hK => ?_)) ?_
        · have h3 : v 3 = (.bool (true)) := hD 3 (by decide)
          have h7 : v 7 = (x.val) := hD 7 (by decide)
          have h8 : v 8 = (y.v) := hD 8 (by decide)
          simp only [o4tD, o4tE, putAll, Act.put, List.getD_cons_succ, List.getD_cons_zero, List.setIfInBounds_toArray, List.set_cons_zero, List.set_cons_succ, h3, h7, h8] at hK ⊢
          go_simp
          refine (test_any wk (d + 40) (d + 40) x y (hj.p (w.heap.size, x) (by simp)).2 (hj.v (w.heap.size + 1, y) (by simp)).2).mono ?_
          rintro e w2 ⟨rfl, hb⟩
          exact hK.out _ _ hb rfl
        refine owes_cons (Owes.mk (o := ({ dst := some 30, op := .binOp .eql 4 (.tmp 26) (.tmp 29) 4, type := 4, pos := "law.go:68", after := #[{ on := 6, ground := .data }, { on := 9, ground := .data }, { on := 3, ground := .guard }], guard := some (3, true) } : Oper)) rfl (fun v wk hj hD K hK => ?_)) ?_
        · have h3 : v 3 = (.bool (true)) := hD 3 (by decide)
          have h6 : v 6 = (.bool (!testV x.t y.t)) := hD 6 (by decide)
          have h9 : v 9 = (.bool (testV x.t y.t)) := hD 9 (by decide)
          simp only [o4tD, o4tE, putAll, Act.put, List.getD_cons_succ, List.getD_cons_zero, List.setIfInBounds_toArray, List.set_cons_zero, List.set_cons_succ, h3, h6, h9] at hK ⊢
          go_simp
          exact hK.out _ _ (Below.refl _ _) (by first | rfl | exact congrArg Value.bool (by cases testV x.t y.t <;> rfl))
        refine owes_cons (Owes.mk (o := ({ dst := some 31, op := .pick (.tmp 23) (.tmp 30) (.const (.bool false)), type := 4, pos := "law.go:68", after := #[{ on := 3, ground := .data }, { on := 10, ground := .data }], guard := none } : Oper)) rfl (fun v wk hj hD K hK => ?_)) ?_
        · have h3 : v 3 = (.bool (true)) := hD 3 (by decide)
          have h10 : v 10 = (.bool (false)) := hD 10 (by decide)
          simp only [o4tD, o4tE, putAll, Act.put, List.getD_cons_succ, List.getD_cons_zero, List.setIfInBounds_toArray, List.set_cons_zero, List.set_cons_succ, h3, h10] at hK ⊢
          go_simp
          exact hK.out _ _ (Below.refl _ _) rfl
        exact owes_nil
      · intro v wf hj hr
        have hl : v 11 = .bool false := hr 11 (by decide)
        simp only [o4tD, putAll, Act.put, List.getD_cons_succ, List.getD_cons_zero, List.setIfInBounds_toArray, List.set_cons_zero, List.set_cons_succ, hl]
        clear hl hr
        have HJ := Lib.hid hj
        clear hj
        go_wp2_with fail
        go_meet
        exact ⟨rfl, HJ.out⟩
  case rest =>
    obtain ⟨rfl, kc⟩ := hcut
    have KC := Lib.hid kc
    clear kc K2
    obtain ⟨⟨a0, a1, a2, _⟩, i1⟩ := KC.out.p (ga, a) (by simp)
    go_wp2_with fail
    refine (negate_any wc (d + 40) a i1).mono ?_
    intro e w5 hn
    obtain ⟨b, rfl, tb, ib, hb⟩ := hn.one
    have HB := Lib.hid tb
    have IB := Lib.hid (ib.up (show 26 ≤ d + 40 by omega))
    have KY := Lib.hid (KC.out.next hb)
    clear a0 a1 a2 i1 hb KC hn tb ib
    go_upto_region 7 with fail
    have k := KY.out.addP b IB.out
    generalize hW : World.alloc w5 _ = w6 at k ⊢
    clear hW
    have K3 := Lib.hid k
    clear k KY IB
    generalize w5.heap.size = gb at *
    go_cut [50] from 8 (fun s50 wx => s50 = .bool false ∧ PS w (d + 40) [(gb, b), (ga, a), (w.heap.size, x)] [(w.heap.size + 1, y)] wx)
    case first =>
      cases hA : okP 12 a.t
      · skip
        refine region_phase_all [0, 1, 2, 3, 4, 5, 6, 7, 8, 9, 10, 11, 12, 13, 14, 15, 16] o7ffD o7ffE (fun w' => PS w (d + 40) [(gb, b), (ga, a), (w.heap.size, x)] [(w.heap.size + 1, y)] w') (saidOf [Is (a.val), Is (.int .i64 2), Is (.bool (false)), Is (.bool (false)), Is undef, Is undef, Is undef, Is (.bool (false)), Is (.bool (false)), Is undef, Is undef, Is undef, Is undef, Is undef, Is undef, Is undef, Is (.bool (false))]) 75 (by rfl) (by kernel_rfl) (by kernel_rfl) (by kernel_rfl) (fun _ _ h hb => h.next hb) (stays_said _ (stays_cons (Is.stays _) (stays_cons (Is.stays _) (stays_cons (Is.stays _) (stays_cons (Is.stays _) (stays_cons (Is.stays _) (stays_cons (Is.stays _) (stays_cons (Is.stays _) (stays_cons (Is.stays _) (stays_cons (Is.stays _) (stays_cons (Is.stays _) (stays_cons (Is.stays _) (stays_cons (Is.stays _) (stays_cons (Is.stays _) (stays_cons (Is.stays _) (stays_cons (Is.stays _) (stays_cons (Is.stays _) (stays_cons (Is.stays _) stays_nil)))))))))))))))))) (K3.out.next (below_drewN _ _ 1)) (by kernel_rfl) ?_ ?_
        · skip
          refine owes_cons (Owes.mk (o := ({ dst := some 34, op := .load 25 (.tmp 5), type := 25, pos := "law.go:72", after := #[], guard := none } : Oper)) rfl (fun v wk hj hD K hK => ?_)) ?_
          · simp only [o7ffD, o7ffE, putAll, Act.put, List.getD_cons_zero, List.setIfInBounds_toArray, List.set_cons_zero, List.set_cons_succ] at hK ⊢
            obtain ⟨⟨a0, a1, a2, _⟩, _⟩ := hj.p (ga, a) (by simp)
            go_simp
            exact hK.out _ _ (Below.refl _ _) rfl
          refine owes_cons (Owes.mk (o := ({ dst := some 35, op := .call { callee := .value (.func 12), args := #[.tmp 34], argTypes := #[25] }, type := 30, pos := "law.go:72", after := #[{ on := 0, ground := .data }], guard := none } : Oper)) rfl (fun v wk hj hD K hK => ?_)) ?_
          · have h0 : v 0 = (a.val) := hD 0 (by decide)
            simp only [o7ffD, o7ffE, putAll, Act.put, List.getD_cons_succ, List.getD_cons_zero, List.setIfInBounds_toArray, List.set_cons_zero, List.set_cons_succ, h0] at hK ⊢
            go_simp
            refine (k_check wk (d + 40) a (hj.p (ga, a) (by simp)).2 2 (by rw [hA]; rfl)).mono ?_
            rintro e w2 ⟨rfl, hb⟩
            exact hK.out _ _ hb rfl
          refine owes_cons (Owes.mk (o := ({ dst := some 36, op := .binOp .eql 30 (.tmp 35) (.const (.int .i64 0)) 30, type := 4, pos := "law.go:72", after := #[{ on := 1, ground := .data }], guard := none } : Oper)) rfl (fun v wk hj hD K hK => ?_)) ?_
          · have h1 : v 1 = (.int .i64 2) := hD 1 (by decide)
            simp only [o7ffD, o7ffE, putAll, Act.put, List.getD_cons_succ, List.getD_cons_zero, List.setIfInBounds_toArray, List.set_cons_zero, List.set_cons_succ, h1] at hK ⊢
            go_simp
            exact hK.out _ _ (Below.refl _ _) rfl
          refine owes_cons (Owes.mk (o := ({ dst := some 37, op := .move (.tmp 36), type := 4, pos := "law.go:72", after := #[{ on := 2, ground := .data }, { on := 1, ground := .chain }], guard := none } : Oper)) rfl (fun v wk hj hD K hK => ?_)) ?_
          · have h2 : v 2 = (.bool (false)) := hD 2 (by decide)
            simp only [o7ffD, o7ffE, putAll, Act.put, List.getD_cons_succ, List.getD_cons_zero, List.setIfInBounds_toArray, List.set_cons_zero, List.set_cons_succ, h2] at hK ⊢
            go_simp
            exact hK.out _ _ (Below.refl _ _) rfl
          refine owes_cons (Owes.mk (o := ({ dst := some 38, op := .load 25 (.tmp 6), type := 25, pos := "law.go:72", after := #[{ on := 3, ground := .guard }], guard := some (3, true) } : Oper)) rfl (fun v wk hj hD K hK => ?_)) ?_
          · have h3 : v 3 = (.bool (false)) := hD 3 (by decide)
            simp only [o7ffD, o7ffE, putAll, Act.put, List.getD_cons_succ, List.getD_cons_zero, List.setIfInBounds_toArray, List.set_cons_zero, List.set_cons_succ, h3] at hK ⊢
            go_simp
            exact hK.out _ _ (Below.refl _ _) rfl
          refine owes_cons (Owes.mk (o := ({ dst := some 39, op := .call { callee := .value (.func 12), args := #[.tmp 38], argTypes := #[25] }, type := 30, pos := "law.go:72", after := #[{ on := 4, ground := .data }, { on := 3, ground := .chain }, { on := 3, ground := .guard }], guard := some (3, true) } : Oper)) rfl (fun v wk hj hD K hK => ?_)) ?_
          · have h3 : v 3 = (.bool (false)) := hD 3 (by decide)
            have h4 : v 4 = undef := hD 4 (by decide)
            simp only [o7ffD, o7ffE, putAll, Act.put, List.getD_cons_succ, List.getD_cons_zero, List.setIfInBounds_toArray, List.set_cons_zero, List.set_cons_succ, h3, h4] at hK ⊢
            go_simp
            exact hK.out _ _ (Below.refl _ _) rfl
          refine owes_cons (Owes.mk (o := ({ dst := some 40, op := .binOp .eql 30 (.tmp 39) (.const (.int .i64 0)) 30, type := 4, pos := "law.go:72", after := #[{ on := 5, ground := .data }, { on := 3, ground := .guard }], guard := some (3, true) } : Oper)) rfl (fun v wk hj hD K hK => ?_)) ?_
          · have h3 : v 3 = (.bool (false)) := hD 3 (by decide)
            have h5 : v 5 = undef := hD 5 (by decide)
            simp only [o7ffD, o7ffE, putAll, Act.put, List.getD_cons_succ, List.getD_cons_zero, List.setIfInBounds_toArray, List.set_cons_zero, List.set_cons_succ, h3, h5] at hK ⊢
            go_simp
            exact hK.out _ _ (Below.refl _ _) rfl
          refine owes_cons (Owes.mk (o := ({ dst := some 41, op := .pick (.tmp 37) (.tmp 40) (.const (.bool false)), type := 4, pos := "law.go:72", after := #[{ on := 3, ground := .data }, { on := 6, ground := .data }], guard := none } : Oper)) rfl (fun v wk hj hD K hK => ?_)) ?_
          · have h3 : v 3 = (.bool (false)) := hD 3 (by decide)
            have h6 : v 6 = undef := hD 6 (by decide)
            simp only [o7ffD, o7ffE, putAll, Act.put, List.getD_cons_succ, List.getD_cons_zero, List.setIfInBounds_toArray, List.set_cons_zero, List.set_cons_succ, h3, h6] at hK ⊢
            go_simp
            exact hK.out _ _ (Below.refl _ _) rfl
          refine owes_cons (Owes.mk (o := ({ dst := some 42, op := .move (.tmp 41), type := 4, pos := "law.go:72", after := #[{ on := 7, ground := .data }, { on := 5, ground := .chain }], guard := none } : Oper)) rfl (fun v wk hj hD K hK => ?_)) ?_
          · have h7 : v 7 = (.bool (false)) := hD 7 (by decide)
            simp only [o7ffD, o7ffE, putAll, Act.put, List.getD_cons_succ, List.getD_cons_zero, List.setIfInBounds_toArray, List.set_cons_zero, List.set_cons_succ, h7] at hK ⊢
            go_simp
            exact hK.out _ _ (Below.refl _ _) rfl
          refine owes_cons (Owes.mk (o := ({ dst := some 43, op := .load 25 (.tmp 6), type := 25, pos := "law.go:72", after := #[{ on := 8, ground := .guard }], guard := some (8, true) } : Oper)) rfl (fun v wk hj hD K hK => ?_)) ?_
          · have h8 : v 8 = (.bool (false)) := hD 8 (by decide)
            simp only [o7ffD, o7ffE, putAll, Act.put, List.getD_cons_succ, List.getD_cons_zero, List.setIfInBounds_toArray, List.set_cons_zero, List.set_cons_succ, h8] at hK ⊢
            go_simp
            exact hK.out _ _ (Below.refl _ _) rfl
          refine owes_cons (Owes.mk (o := ({ dst := some 44, op := .load 27 (.tmp 3), type := 27, pos := "law.go:72", after := #[{ on := 8, ground := .guard }], guard := some (8, true) } : Oper)) rfl (fun v wk hj hD K hK => ?_)) ?_
          · have h8 : v 8 = (.bool (false)) := hD 8 (by decide)
            simp only [o7ffD, o7ffE, putAll, Act.put, List.getD_cons_succ, List.getD_cons_zero, List.setIfInBounds_toArray, List.set_cons_zero, List.set_cons_succ, h8] at hK ⊢
            go_simp
            exact hK.out _ _ (Below.refl _ _) rfl
          refine owes_cons (Owes.mk (o := ({ dst := some 45, op := .call { callee := .value (.func 14), args := #[.tmp 43, .tmp 44], argTypes := #[25, 27] }, type := 4, pos := "law.go:72", after := #[{ on := 9, ground := .data }, { on := 10, ground := .data }, { on := 8, ground := .chain }, { on := 8, ground := .guard }], guard := some (8, true) } : Oper)) rfl (fun v wk hj hD K hK => ?_)) ?_
          · have h8 : v 8 = (.bool (false)) := hD 8 (by decide)
            have h9 : v 9 = undef := hD 9 (by decide)
            have h10 : v 10 = undef := hD 10 (by decide)
            simp only [o7ffD, o7ffE, putAll, Act.put, List.getD_cons_succ, List.getD_cons_zero, List.setIfInBounds_toArray, List.set_cons_zero, List.set_cons_succ, h8, h9, h10] at hK ⊢
            go_simp
            exact hK.out _ _ (Below.refl _ _) rfl
          refine owes_cons (Owes.mk (o := ({ dst := some 46, op := .load 25 (.tmp 2), type := 25, pos := "law.go:72", after := #[{ on := 8, ground := .guard }], guard := some (8, true) } : Oper)) rfl (fun v wk hj hD K hK => ?_)) ?_
          · have h8 : v 8 = (.bool (false)) := hD 8 (by decide)
            simp only [o7ffD, o7ffE, putAll, Act.put, List.getD_cons_succ, List.getD_cons_zero, List.setIfInBounds_toArray, List.set_cons_zero, List.set_cons_succ, h8] at hK ⊢
            go_simp
            exact hK.out _ _ (Below.refl _ _) rfl
          refine owes_cons (Owes.mk (o := ({ dst := some 47, op := .load 27 (.tmp 3), type := 27, pos := "law.go:72", after := #[{ on := 8, ground := .guard }], guard := some (8, true) } : Oper)) rfl (fun v wk hj hD K hK => ?_)) ?_
          · have h8 : v 8 = (.bool (false)) := hD 8 (by decide)
            simp only [o7ffD, o7ffE, putAll, Act.put, List.getD_cons_succ, List.getD_cons_zero, List.setIfInBounds_toArray, List.set_cons_zero, List.set_cons_succ, h8] at hK ⊢
            go_simp
            exact hK.out _ _ (Below.refl _ _) rfl
          refine owes_cons (Owes.mk (o := ({ dst := some 48, op := .call { callee := .value (.func 14), args := #[.tmp 46, .tmp 47], argTypes := #[25, 27] }, type := 4, pos := "law.go:72", after := #[{ on := 12, ground := .data }, { on := 13, ground := .data }, { on := 11, ground := .chain }, { on := 8, ground := .guard }], guard := some (8, true) } : Oper)) rfl (fun v wk hj hD K hK => ?_)) ?_
          · have h8 : v 8 = (.bool (false)) := hD 8 (by decide)
            have h12 : v 12 = undef := hD 12 (by decide)
            have h13 : v 13 = undef := hD 13 (by decide)
            simp only [o7ffD, o7ffE, putAll, Act.put, List.getD_cons_succ, List.getD_cons_zero, List.setIfInBounds_toArray, List.set_cons_zero, List.set_cons_succ, h8, h12, h13] at hK ⊢
            go_simp
            exact hK.out _ _ (Below.refl _ _) rfl
          refine owes_cons (Owes.mk (o := ({ dst := some 49, op := .binOp .neq 4 (.tmp 45) (.tmp 48) 4, type := 4, pos := "law.go:72", after := #[{ on := 11, ground := .data }, { on := 14, ground := .data }, { on := 8, ground := .guard }], guard := some (8, true) } : Oper)) rfl (fun v wk hj hD K hK => ?_)) ?_
          · have h8 : v 8 = (.bool (false)) := hD 8 (by decide)
            have h11 : v 11 = undef := hD 11 (by decide)
            have h14 : v 14 = undef := hD 14 (by decide)
            simp only [o7ffD, o7ffE, putAll, Act.put, List.getD_cons_succ, List.getD_cons_zero, List.setIfInBounds_toArray, List.set_cons_zero, List.set_cons_succ, h8, h11, h14] at hK ⊢
            go_simp
            exact hK.out _ _ (Below.refl _ _) rfl
          refine owes_cons (Owes.mk (o := ({ dst := some 50, op := .pick (.tmp 42) (.tmp 49) (.const (.bool false)), type := 4, pos := "law.go:72", after := #[{ on := 8, ground := .data }, { on := 15, ground := .data }], guard := none } : Oper)) rfl (fun v wk hj hD K hK => ?_)) ?_
          · have h8 : v 8 = (.bool (false)) := hD 8 (by decide)
            have h15 : v 15 = undef := hD 15 (by decide)
            simp only [o7ffD, o7ffE, putAll, Act.put, List.getD_cons_succ, List.getD_cons_zero, List.setIfInBounds_toArray, List.set_cons_zero, List.set_cons_succ, h8, h15] at hK ⊢
            go_simp
            exact hK.out _ _ (Below.refl _ _) rfl
          exact owes_nil
        · intro v wf hj hr
          have hl : v 16 = .bool false := hr 16 (by decide)
          simp only [o7ffD, putAll, Act.put, List.getD_cons_succ, List.getD_cons_zero, List.setIfInBounds_toArray, List.set_cons_zero, List.set_cons_succ, hl]
          clear hl hr
          have HJ := Lib.hid hj
          clear hj
          go_wp2_with fail
          go_meet
          exact ⟨rfl, HJ.out⟩
      · cases hB : okP 12 b.t
        · skip
          refine region_phase_all [0, 1, 2, 3, 4, 5, 6, 7, 8, 9, 10, 11, 12, 13, 14, 15, 16] o7tfD o7tfE (fun w' => PS w (d + 40) [(gb, b), (ga, a), (w.heap.size, x)] [(w.heap.size + 1, y)] w') (saidOf [Is (a.val), Is (.int .i64 0), Is (.bool (true)), Is (.bool (true)), Is (b.val), Is (.int .i64 2), Is (.bool (false)), Is (.bool (false)), Is (.bool (false)), Is undef, Is undef, Is undef, Is undef, Is undef, Is undef, Is undef, Is (.bool (false))]) 75 (by rfl) (by kernel_rfl) (by kernel_rfl) (by kernel_rfl) (fun _ _ h hb => h.next hb) (stays_said _ (stays_cons (Is.stays _) (stays_cons (Is.stays _) (stays_cons (Is.stays _) (stays_cons (Is.stays _) (stays_cons (Is.stays _) (stays_cons (Is.stays _) (stays_cons (Is.stays _) (stays_cons (Is.stays _) (stays_cons (Is.stays _) (stays_cons (Is.stays _) (stays_cons (Is.stays _) (stays_cons (Is.stays _) (stays_cons (Is.stays _) (stays_cons (Is.stays _) (stays_cons (Is.stays _) (stays_cons (Is.stays _) (stays_cons (Is.stays _) stays_nil)))))))))))))))))) (K3.out.next (below_drewN _ _ 1)) (by kernel_rfl) ?_ ?_
          · skip
            refine owes_cons (Owes.mk (o := ({ dst := some 34, op := .load 25 (.tmp 5), type := 25, pos := "law.go:72", after := #[], guard := none } : Oper)) rfl (fun v wk hj hD K hK => ?_)) ?_
            · simp only [o7tfD, o7tfE, putAll, Act.put, List.getD_cons_zero, List.setIfInBounds_toArray, List.set_cons_zero, List.set_cons_succ] at hK ⊢
              obtain ⟨⟨a0, a1, a2, _⟩, _⟩ := hj.p (ga, a) (by simp)
              go_simp
              exact hK.out _ _ (Below.refl _ _) rfl
            refine owes_cons (Owes.mk (o := ({ dst := some 35, op := .call { callee := .value (.func 12), args := #[.tmp 34], argTypes := #[25] }, type := 30, pos := "law.go:72", after := #[{ on := 0, ground := .data }], guard := none } : Oper)) rfl (fun v wk hj hD K hK => ?_)) ?_
            · have h0 : v 0 = (a.val) := hD 0 (by decide)
              simp only [o7tfD, o7tfE, putAll, Act.put, List.getD_cons_succ, List.getD_cons_zero, List.setIfInBounds_toArray, List.set_cons_zero, List.set_cons_succ, h0] at hK ⊢
              go_simp
              refine (k_check wk (d + 40) a (hj.p (ga, a) (by simp)).2 0 (by rw [hA]; rfl)).mono ?_
              rintro e w2 ⟨rfl, hb⟩
              exact hK.out _ _ hb rfl
            refine owes_cons (Owes.mk (o := ({ dst := some 36, op := .binOp .eql 30 (.tmp 35) (.const (.int .i64 0)) 30, type := 4, pos := "law.go:72", after := #[{ on := 1, ground := .data }], guard := none } : Oper)) rfl (fun v wk hj hD K hK => ?_)) ?_
            · have h1 : v 1 = (.int .i64 0) := hD 1 (by decide)
              simp only [o7tfD, o7tfE, putAll, Act.put, List.getD_cons_succ, List.getD_cons_zero, List.setIfInBounds_toArray, List.set_cons_zero, List.set_cons_succ, h1] at hK ⊢
              go_simp
              exact hK.out _ _ (Below.refl _ _) rfl
            refine owes_cons (Owes.mk (o := ({ dst := some 37, op := .move (.tmp 36), type := 4, pos := "law.go:72", after := #[{ on := 2, ground := .data }, { on := 1, ground := .chain }], guard := none } : Oper)) rfl (fun v wk hj hD K hK => ?_)) ?_
            · have h2 : v 2 = (.bool (true)) := hD 2 (by decide)
              simp only [o7tfD, o7tfE, putAll, Act.put, List.getD_cons_succ, List.getD_cons_zero, List.setIfInBounds_toArray, List.set_cons_zero, List.set_cons_succ, h2] at hK ⊢
              go_simp
              exact hK.out _ _ (Below.refl _ _) rfl
            refine owes_cons (Owes.mk (o := ({ dst := some 38, op := .load 25 (.tmp 6), type := 25, pos := "law.go:72", after := #[{ on := 3, ground := .guard }], guard := some (3, true) } : Oper)) rfl (fun v wk hj hD K hK => ?_)) ?_
            · have h3 : v 3 = (.bool (true)) := hD 3 (by decide)
              simp only [o7tfD, o7tfE, putAll, Act.put, List.getD_cons_succ, List.getD_cons_zero, List.setIfInBounds_toArray, List.set_cons_zero, List.set_cons_succ, h3] at hK ⊢
              obtain ⟨⟨a0, a1, a2, _⟩, _⟩ := hj.p (gb, b) (by simp)
              go_simp
              exact hK.out _ _ (Below.refl _ _) rfl
            refine owes_cons (Owes.mk (o := ({ dst := some 39, op := .call { callee := .value (.func 12), args := #[.tmp 38], argTypes := #[25] }, type := 30, pos := "law.go:72", after := #[{ on := 4, ground := .data }, { on := 3, ground := .chain }, { on := 3, ground := .guard }], guard := some (3, true) } : Oper)) rfl (fun v wk hj hD K hK => ?_)) ?_
            · have h3 : v 3 = (.bool (true)) := hD 3 (by decide)
              have h4 : v 4 = (b.val) := hD 4 (by decide)
              simp only [o7tfD, o7tfE, putAll, Act.put, List.getD_cons_succ, List.getD_cons_zero, List.setIfInBounds_toArray, List.set_cons_zero, List.set_cons_succ, h3, h4] at hK ⊢
              go_simp
              refine (k_check wk (d + 40) b (hj.p (gb, b) (by simp)).2 2 (by rw [hB]; rfl)).mono ?_
              rintro e w2 ⟨rfl, hb⟩
              exact hK.out _ _ hb rfl
            refine owes_cons (Owes.mk (o := ({ dst := some 40, op := .binOp .eql 30 (.tmp 39) (.const (.int .i64 0)) 30, type := 4, pos := "law.go:72", after := #[{ on := 5, ground := .data }, { on := 3, ground := .guard }], guard := some (3, true) } : Oper)) rfl (fun v wk hj hD K hK => ?_)) ?_
            · have h3 : v 3 = (.bool (true)) := hD 3 (by decide)
              have h5 : v 5 = (.int .i64 2) := hD 5 (by decide)
              simp only [o7tfD, o7tfE, putAll, Act.put, List.getD_cons_succ, List.getD_cons_zero, List.setIfInBounds_toArray, List.set_cons_zero, List.set_cons_succ, h3, h5] at hK ⊢
              go_simp
              exact hK.out _ _ (Below.refl _ _) rfl
            refine owes_cons (Owes.mk (o := ({ dst := some 41, op := .pick (.tmp 37) (.tmp 40) (.const (.bool false)), type := 4, pos := "law.go:72", after := #[{ on := 3, ground := .data }, { on := 6, ground := .data }], guard := none } : Oper)) rfl (fun v wk hj hD K hK => ?_)) ?_
            · have h3 : v 3 = (.bool (true)) := hD 3 (by decide)
              have h6 : v 6 = (.bool (false)) := hD 6 (by decide)
              simp only [o7tfD, o7tfE, putAll, Act.put, List.getD_cons_succ, List.getD_cons_zero, List.setIfInBounds_toArray, List.set_cons_zero, List.set_cons_succ, h3, h6] at hK ⊢
              go_simp
              exact hK.out _ _ (Below.refl _ _) rfl
            refine owes_cons (Owes.mk (o := ({ dst := some 42, op := .move (.tmp 41), type := 4, pos := "law.go:72", after := #[{ on := 7, ground := .data }, { on := 5, ground := .chain }], guard := none } : Oper)) rfl (fun v wk hj hD K hK => ?_)) ?_
            · have h7 : v 7 = (.bool (false)) := hD 7 (by decide)
              simp only [o7tfD, o7tfE, putAll, Act.put, List.getD_cons_succ, List.getD_cons_zero, List.setIfInBounds_toArray, List.set_cons_zero, List.set_cons_succ, h7] at hK ⊢
              go_simp
              exact hK.out _ _ (Below.refl _ _) rfl
            refine owes_cons (Owes.mk (o := ({ dst := some 43, op := .load 25 (.tmp 6), type := 25, pos := "law.go:72", after := #[{ on := 8, ground := .guard }], guard := some (8, true) } : Oper)) rfl (fun v wk hj hD K hK => ?_)) ?_
            · have h8 : v 8 = (.bool (false)) := hD 8 (by decide)
              simp only [o7tfD, o7tfE, putAll, Act.put, List.getD_cons_succ, List.getD_cons_zero, List.setIfInBounds_toArray, List.set_cons_zero, List.set_cons_succ, h8] at hK ⊢
              go_simp
              exact hK.out _ _ (Below.refl _ _) rfl
            refine owes_cons (Owes.mk (o := ({ dst := some 44, op := .load 27 (.tmp 3), type := 27, pos := "law.go:72", after := #[{ on := 8, ground := .guard }], guard := some (8, true) } : Oper)) rfl (fun v wk hj hD K hK => ?_)) ?_
            · have h8 : v 8 = (.bool (false)) := hD 8 (by decide)
              simp only [o7tfD, o7tfE, putAll, Act.put, List.getD_cons_succ, List.getD_cons_zero, List.setIfInBounds_toArray, List.set_cons_zero, List.set_cons_succ, h8] at hK ⊢
              go_simp
              exact hK.out _ _ (Below.refl _ _) rfl
            refine owes_cons (Owes.mk (o := ({ dst := some 45, op := .call { callee := .value (.func 14), args := #[.tmp 43, .tmp 44], argTypes := #[25, 27] }, type := 4, pos := "law.go:72", after := #[{ on := 9, ground := .data }, { on := 10, ground := .data }, { on := 8, ground := .chain }, { on := 8, ground := .guard }], guard := some (8, true) } : Oper)) rfl (fun v wk hj hD K hK => ?_)) ?_
            · have h8 : v 8 = (.bool (false)) := hD 8 (by decide)
              have h9 : v 9 = undef := hD 9 (by decide)
              have h10 : v 10 = undef := hD 10 (by decide)
              simp only [o7tfD, o7tfE, putAll, Act.put, List.getD_cons_succ, List.getD_cons_zero, List.setIfInBounds_toArray, List.set_cons_zero, List.set_cons_succ, h8, h9, h10] at hK ⊢
              go_simp
              exact hK.out _ _ (Below.refl _ _) rfl
            refine owes_cons (Owes.mk (o := ({ dst := some 46, op := .load 25 (.tmp 2), type := 25, pos := "law.go:72", after := #[{ on := 8, ground := .guard }], guard := some (8, true) } : Oper)) rfl (fun v wk hj hD K hK => ?_)) ?_
            · have h8 : v 8 = (.bool (false)) := hD 8 (by decide)
              simp only [o7tfD, o7tfE, putAll, Act.put, List.getD_cons_succ, List.getD_cons_zero, List.setIfInBounds_toArray, List.set_cons_zero, List.set_cons_succ, h8] at hK ⊢
              go_simp
              exact hK.out _ _ (Below.refl _ _) rfl
            refine owes_cons (Owes.mk (o := ({ dst := some 47, op := .load 27 (.tmp 3), type := 27, pos := "law.go:72", after := #[{ on := 8, ground := .guard }], guard := some (8, true) } : Oper)) rfl (fun v wk hj hD K hK => ?_)) ?_
            · have h8 : v 8 = (.bool (false)) := hD 8 (by decide)
              simp only [o7tfD, o7tfE, putAll, Act.put, List.getD_cons_succ, List.getD_cons_zero, List.setIfInBounds_toArray, List.set_cons_zero, List.set_cons_succ, h8] at hK ⊢
              go_simp
              exact hK.out _ _ (Below.refl _ _) rfl
            refine owes_cons (Owes.mk (o := ({ dst := some 48, op := .call { callee := .value (.func 14), args := #[.tmp 46, .tmp 47], argTypes := #[25, 27] }, type := 4, pos := "law.go:72", after := #[{ on := 12, ground := .data }, { on := 13, ground := .data }, { on := 11, ground := .chain }, { on := 8, ground := .guard }], guard := some (8, true) } : Oper)) rfl (fun v wk hj hD K hK => ?_)) ?_
            · have h8 : v 8 = (.bool (false)) := hD 8 (by decide)
              have h12 : v 12 = undef := hD 12 (by decide)
              have h13 : v 13 = undef := hD 13 (by decide)
              simp only [o7tfD, o7tfE, putAll, Act.put, List.getD_cons_succ, List.getD_cons_zero, List.setIfInBounds_toArray, List.set_cons_zero, List.set_cons_succ, h8, h12, h13] at hK ⊢
              go_simp
              exact hK.out _ _ (Below.refl _ _) rfl
            refine owes_cons (Owes.mk (o := ({ dst := some 49, op := .binOp .neq 4 (.tmp 45) (.tmp 48) 4, type := 4, pos := "law.go:72", after := #[{ on := 11, ground := .data }, { on := 14, ground := .data }, { on := 8, ground := .guard }], guard := some (8, true) } : Oper)) rfl (fun v wk hj hD K hK => ?_)) ?_
            · have h8 : v 8 = (.bool (false)) := hD 8 (by decide)
              have h11 : v 11 = undef := hD 11 (by decide)
              have h14 : v 14 = undef := hD 14 (by decide)
              simp only [o7tfD, o7tfE, putAll, Act.put, List.getD_cons_succ, List.getD_cons_zero, List.setIfInBounds_toArray, List.set_cons_zero, List.set_cons_succ, h8, h11, h14] at hK ⊢
              go_simp
              exact hK.out _ _ (Below.refl _ _) rfl
            refine owes_cons (Owes.mk (o := ({ dst := some 50, op := .pick (.tmp 42) (.tmp 49) (.const (.bool false)), type := 4, pos := "law.go:72", after := #[{ on := 8, ground := .data }, { on := 15, ground := .data }], guard := none } : Oper)) rfl (fun v wk hj hD K hK => ?_)) ?_
            · have h8 : v 8 = (.bool (false)) := hD 8 (by decide)
              have h15 : v 15 = undef := hD 15 (by decide)
              simp only [o7tfD, o7tfE, putAll, Act.put, List.getD_cons_succ, List.getD_cons_zero, List.setIfInBounds_toArray, List.set_cons_zero, List.set_cons_succ, h8, h15] at hK ⊢
              go_simp
              exact hK.out _ _ (Below.refl _ _) rfl
            exact owes_nil
          · intro v wf hj hr
            have hl : v 16 = .bool false := hr 16 (by decide)
            simp only [o7tfD, putAll, Act.put, List.getD_cons_succ, List.getD_cons_zero, List.setIfInBounds_toArray, List.set_cons_zero, List.set_cons_succ, hl]
            clear hl hr
            have HJ := Lib.hid hj
            clear hj
            go_wp2_with fail
            go_meet
            exact ⟨rfl, HJ.out⟩
        · skip
          refine region_phase_all [0, 1, 2, 3, 4, 5, 6, 7, 8, 9, 10, 11, 12, 13, 14, 15, 16] o7ttD o7ttE (fun w' => PS w (d + 40) [(gb, b), (ga, a), (w.heap.size, x)] [(w.heap.size + 1, y)] w') (saidOf [Is (a.val), Is (.int .i64 0), Is (.bool (true)), Is (.bool (true)), Is (b.val), Is (.int .i64 0), Is (.bool (true)), Is (.bool (true)), Is (.bool (true)), Is (b.val), Is (y.v), Is (.bool (testV x.t y.t)), Is (x.val), Is (y.v), Is (.bool (testV x.t y.t)), Is (.bool (false)), Is (.bool (false))]) 75 (by rfl) (by kernel_rfl) (by kernel_rfl) (by kernel_rfl) (fun _ _ h hb => h.next hb) (stays_said _ (stays_cons (Is.stays _) (stays_cons (Is.stays _) (stays_cons (Is.stays _) (stays_cons (Is.stays _) (stays_cons (Is.stays _) (stays_cons (Is.stays _) (stays_cons (Is.stays _) (stays_cons (Is.stays _) (stays_cons (Is.stays _) (stays_cons (Is.stays _) (stays_cons (Is.stays _) (stays_cons (Is.stays _) (stays_cons (Is.stays _) (stays_cons (Is.stays _) (stays_cons (Is.stays _) (stays_cons (Is.stays _) (stays_cons (Is.stays _) stays_nil)))))))))))))))))) (K3.out.next (below_drewN _ _ 1)) (by kernel_rfl) ?_ ?_
          · skip
            refine owes_cons (Owes.mk (o := ({ dst := some 34, op := .load 25 (.tmp 5), type := 25, pos := "law.go:72", after := #[], guard := none } : Oper)) rfl (fun v wk hj hD K hK => ?_)) ?_
            · simp only [o7ttD, o7ttE, putAll, Act.put, List.getD_cons_zero, List.setIfInBounds_toArray, List.set_cons_zero, List.set_cons_succ] at hK ⊢
              obtain ⟨⟨a0, a1, a2, _⟩, _⟩ := hj.p (ga, a) (by simp)
              go_simp
              exact hK.out _ _ (Below.refl _ _) rfl
            refine owes_cons (Owes.mk (o := ({ dst := some 35, op := .call { callee := .value (.func 12), args := #[.tmp 34], argTypes := #[25] }, type := 30, pos := "law.go:72", after := #[{ on := 0, ground := .data }], guard := none } : Oper)) rfl (fun v wk hj hD K hK => ?_)) ?_
            · have h0 : v 0 = (a.val) := hD 0 (by decide)
              simp only [o7ttD, o7ttE, putAll, Act.put, List.getD_cons_succ, List.getD_cons_zero, List.setIfInBounds_toArray, List.set_cons_zero, List.set_cons_succ, h0] at hK ⊢
              go_simp
              refine (k_check wk (d + 40) a (hj.p (ga, a) (by simp)).2 0 (by rw [hA]; rfl)).mono ?_
              rintro e w2 ⟨rfl, hb⟩
              exact hK.out _ _ hb rfl
            refine owes_cons (Owes.mk (o := ({ dst := some 36, op := .binOp .eql 30 (.tmp 35) (.const (.int .i64 0)) 30, type := 4, pos := "law.go:72", after := #[{ on := 1, ground := .data }], guard := none } : Oper)) rfl (fun v wk hj hD K hK => ?_)) ?_
            · have h1 : v 1 = (.int .i64 0) := hD 1 (by decide)
              simp only [o7ttD, o7ttE, putAll, Act.put, List.getD_cons_succ, List.getD_cons_zero, List.setIfInBounds_toArray, List.set_cons_zero, List.set_cons_succ, h1] at hK ⊢
              go_simp
              exact hK.out _ _ (Below.refl _ _) rfl
            refine owes_cons (Owes.mk (o := ({ dst := some 37, op := .move (.tmp 36), type := 4, pos := "law.go:72", after := #[{ on := 2, ground := .data }, { on := 1, ground := .chain }], guard := none } : Oper)) rfl (fun v wk hj hD K hK => ?_)) ?_
            · have h2 : v 2 = (.bool (true)) := hD 2 (by decide)
              simp only [o7ttD, o7ttE, putAll, Act.put, List.getD_cons_succ, List.getD_cons_zero, List.setIfInBounds_toArray, List.set_cons_zero, List.set_cons_succ, h2] at hK ⊢
              go_simp
              exact hK.out _ _ (Below.refl _ _) rfl
            refine owes_cons (Owes.mk (o := ({ dst := some 38, op := .load 25 (.tmp 6), type := 25, pos := "law.go:72", after := #[{ on := 3, ground := .guard }], guard := some (3, true) } : Oper)) rfl (fun v wk hj hD K hK => ?_)) ?_
            · have h3 : v 3 = (.bool (true)) := hD 3 (by decide)
              simp only [o7ttD, o7ttE, putAll, Act.put, List.getD_cons_succ, List.getD_cons_zero, List.setIfInBounds_toArray, List.set_cons_zero, List.set_cons_succ, h3] at hK ⊢
              obtain ⟨⟨a0, a1, a2, _⟩, _⟩ := hj.p (gb, b) (by simp)
              go_simp
              exact hK.out _ _ (Below.refl _ _) rfl
            refine owes_cons (Owes.mk (o := ({ dst := some 39, op := .call { callee := .value (.func 12), args := #[.tmp 38], argTypes := #[25] }, type := 30, pos := "law.go:72", after := #[{ on := 4, ground := .data }, { on := 3, ground := .chain }, { on := 3, ground := .guard }], guard := some (3, true) } : Oper)) rfl (fun v wk hj hD K hK => ?_)) ?_
            · have h3 : v 3 = (.bool (true)) := hD 3 (by decide)
              have h4 : v 4 = (b.val) := hD 4 (by decide)
              simp only [o7ttD, o7ttE, putAll, Act.put, List.getD_cons_succ, List.getD_cons_zero, List.setIfInBounds_toArray, List.set_cons_zero, List.set_cons_succ, h3, h4] at hK ⊢
              go_simp
              refine (k_check wk (d + 40) b (hj.p (gb, b) (by simp)).2 0 (by rw [hB]; rfl)).mono ?_
              rintro e w2 ⟨rfl, hb⟩
              exact hK.out _ _ hb rfl
            refine owes_cons (Owes.mk (o := ({ dst := some 40, op := .binOp .eql 30 (.tmp 39) (.const (.int .i64 0)) 30, type := 4, pos := "law.go:72", after := #[{ on := 5, ground := .data }, { on := 3, ground := .guard }], guard := some (3, true) } : Oper)) rfl (fun v wk hj hD K hK => ?_)) ?_
            · have h3 : v 3 = (.bool (true)) := hD 3 (by decide)
              have h5 : v 5 = (.int .i64 0) := hD 5 (by decide)
              simp only [o7ttD, o7ttE, putAll, Act.put, List.getD_cons_succ, List.getD_cons_zero, List.setIfInBounds_toArray, List.set_cons_zero, List.set_cons_succ, h3, h5] at hK ⊢
              go_simp
              exact hK.out _ _ (Below.refl _ _) rfl
            refine owes_cons (Owes.mk (o := ({ dst := some 41, op := .pick (.tmp 37) (.tmp 40) (.const (.bool false)), type := 4, pos := "law.go:72", after := #[{ on := 3, ground := .data }, { on := 6, ground := .data }], guard := none } : Oper)) rfl (fun v wk hj hD K hK => ?_)) ?_
            · have h3 : v 3 = (.bool (true)) := hD 3 (by decide)
              have h6 : v 6 = (.bool (true)) := hD 6 (by decide)
              simp only [o7ttD, o7ttE, putAll, Act.put, List.getD_cons_succ, List.getD_cons_zero, List.setIfInBounds_toArray, List.set_cons_zero, List.set_cons_succ, h3, h6] at hK ⊢
              go_simp
              exact hK.out _ _ (Below.refl _ _) rfl
            refine owes_cons (Owes.mk (o := ({ dst := some 42, op := .move (.tmp 41), type := 4, pos := "law.go:72", after := #[{ on := 7, ground := .data }, { on := 5, ground := .chain }], guard := none } : Oper)) rfl (fun v wk hj hD K hK => ?_)) ?_
            · have h7 : v 7 = (.bool (true)) := hD 7 (by decide)
              simp only [o7ttD, o7ttE, putAll, Act.put, List.getD_cons_succ, List.getD_cons_zero, List.setIfInBounds_toArray, List.set_cons_zero, List.set_cons_succ, h7] at hK ⊢
              go_simp
              exact hK.out _ _ (Below.refl _ _) rfl
            refine owes_cons (Owes.mk (o := ({ dst := some 43, op := .load 25 (.tmp 6), type := 25, pos := "law.go:72", after := #[{ on := 8, ground := .guard }], guard := some (8, true) } : Oper)) rfl (fun v wk hj hD K hK => ?_)) ?_
            · have h8 : v 8 = (.bool (true)) := hD 8 (by decide)
              simp only [o7ttD, o7ttE, putAll, Act.put, List.getD_cons_succ, List.getD_cons_zero, List.setIfInBounds_toArray, List.set_cons_zero, List.set_cons_succ, h8] at hK ⊢
              obtain ⟨⟨a0, a1, a2, _⟩, _⟩ := hj.p (gb, b) (by simp)
              go_simp
              exact hK.out _ _ (Below.refl _ _) rfl
            refine owes_cons (Owes.mk (o := ({ dst := some 44, op := .load 27 (.tmp 3), type := 27, pos := "law.go:72", after := #[{ on := 8, ground := .guard }], guard := some (8, true) } : Oper)) rfl (fun v wk hj hD K hK => ?_)) ?_
            · have h8 : v 8 = (.bool (true)) := hD 8 (by decide)
              simp only [o7ttD, o7ttE, putAll, Act.put, List.getD_cons_succ, List.getD_cons_zero, List.setIfInBounds_toArray, List.set_cons_zero, List.set_cons_succ, h8] at hK ⊢
              obtain ⟨⟨a0, a1, a2, a3, a4, _⟩, _⟩ := hj.v (w.heap.size + 1, y) (by simp)
              go_simp
              exact hK.out _ _ (Below.refl _ _) rfl
            refine owes_cons (Owes.mk (o := ({ dst := some 45, op := .call { callee := .value (.func 14), args := #[.tmp 43, .tmp 44], argTypes := #[25, 27] }, type := 4, pos := "law.go:72", after := #[{ on := 9, ground := .data }, { on := 10, ground := .data }, { on := 8, ground := .chain }, { on := 8, ground := .guard }], guard := some (8, true) } : Oper)) rfl (fun v wk hj hD K hK => ?_)) ?_
            · have h8 : v 8 = (.bool (true)) := hD 8 (by decide)
              have h9 : v 9 = (b.val) := hD 9 (by decide)
              have h10 : v 10 = (y.v) := hD 10 (by decide)
              simp only [o7ttD, o7ttE, putAll, Act.put, List.getD_cons_succ, List.getD_cons_zero, List.setIfInBounds_toArray, List.set_cons_zero, List.set_cons_succ, h8, h9, h10] at hK ⊢
              go_simp
              refine (k_test wk (d + 40) (d + 40) b y (hj.p (gb, b) (by simp)).2 (hj.v (w.heap.size + 1, y) (by simp)).2 (testV x.t y.t) (by rw [HB.out, test_neg y.t hA (by rw [← HB.out]; exact hB), HA.out, test_neg y.t HX.out (by rw [← HA.out]; exact hA), Bool.not_not])).mono ?_
              rintro e w2 ⟨rfl, hb⟩
              exact hK.out _ _ hb rfl
            refine owes_cons (Owes.mk (o := ({ dst := some 46, op := .load 25 (.tmp 2), type := 25, pos := "law.go:72", after := #[{ on := 8, ground := .guard }], guard := some (8, true) } : Oper)) rfl (fun v wk hj hD K hK => ?_)) ?_
            · have h8 : v 8 = (.bool (true)) := hD 8 (by decide)
              simp only [o7ttD, o7ttE, putAll, Act.put, List.getD_cons_succ, List.getD_cons_zero, List.setIfInBounds_toArray, List.set_cons_zero, List.set_cons_succ, h8] at hK ⊢
              obtain ⟨⟨a0, a1, a2, _⟩, _⟩ := hj.p (w.heap.size, x) (by simp)
              go_simp
              exact hK.out _ _ (Below.refl _ _) rfl
            refine owes_cons (Owes.mk (o := ({ dst := some 47, op := .load 27 (.tmp 3), type := 27, pos := "law.go:72", after := #[{ on := 8, ground := .guard }], guard := some (8, true) } : Oper)) rfl (fun v wk hj hD K hK => ?_)) ?_
            · have h8 : v 8 = (.bool (true)) := hD 8 (by decide)
              simp only [o7ttD, o7ttE, putAll, Act.put, List.getD_cons_succ, List.getD_cons_zero, List.setIfInBounds_toArray, List.set_cons_zero, List.set_cons_succ, h8] at hK ⊢
              obtain ⟨⟨a0, a1, a2, a3, a4, _⟩, _⟩ := hj.v (w.heap.size + 1, y) (by simp)
              go_simp
              exact hK.out _ _ (Below.refl _ _) rfl
            refine owes_cons (Owes.mk (o := ({ dst := some 48, op := .call { callee := .value (.func 14), args := #[.tmp 46, .tmp 47], argTypes := #[25, 27] }, type := 4, pos := "law.go:72", after := #[{ on := 12, ground := .data }, { on := 13, ground := .data }, { on := 11, ground := .chain }, { on := 8, ground := .guard }], guard := some (8, true) } : Oper)) rfl (fun v wk hj hD K hK => ?_)) ?_
            · have h8 : v 8 = (.bool (true)) := hD 8 (by decide)
              have h12 : v 12 = (x.val) := hD 12 (by decide)
              have h13 : v 13 = (y.v) := hD 13 (by decide)
              simp only [o7ttD, o7ttE, putAll, Act.put, List.getD_cons_succ, List.getD_cons_zero, List.setIfInBounds_toArray, List.set_cons_zero, List.set_cons_succ, h8, h12, h13] at hK ⊢
              go_simp
              refine (test_any wk (d + 40) (d + 40) x y (hj.p (w.heap.size, x) (by simp)).2 (hj.v (w.heap.size + 1, y) (by simp)).2).mono ?_
              rintro e w2 ⟨rfl, hb⟩
              exact hK.out _ _ hb rfl
            refine owes_cons (Owes.mk (o := ({ dst := some 49, op := .binOp .neq 4 (.tmp 45) (.tmp 48) 4, type := 4, pos := "law.go:72", after := #[{ on := 11, ground := .data }, { on := 14, ground := .data }, { on := 8, ground := .guard }], guard := some (8, true) } : Oper)) rfl (fun v wk hj hD K hK => ?_)) ?_
            · have h8 : v 8 = (.bool (true)) := hD 8 (by decide)
              have h11 : v 11 = (.bool (testV x.t y.t)) := hD 11 (by decide)
              have h14 : v 14 = (.bool (testV x.t y.t)) := hD 14 (by decide)
              simp only [o7ttD, o7ttE, putAll, Act.put, List.getD_cons_succ, List.getD_cons_zero, List.setIfInBounds_toArray, List.set_cons_zero, List.set_cons_succ, h8, h11, h14] at hK ⊢
              go_simp
              exact hK.out _ _ (Below.refl _ _) (by first | rfl | exact congrArg Value.bool (by cases testV x.t y.t <;> rfl))
            refine owes_cons (Owes.mk (o := ({ dst := some 50, op := .pick (.tmp 42) (.tmp 49) (.const (.bool false)), type := 4, pos := "law.go:72", after := #[{ on := 8, ground := .data }, { on := 15, ground := .data }], guard := none } : Oper)) rfl (fun v wk hj hD K hK => ?_)) ?_
            · have h8 : v 8 = (.bool (true)) := hD 8 (by decide)
              have h15 : v 15 = (.bool (false)) := hD 15 (by decide)
              simp only [o7ttD, o7ttE, putAll, Act.put, List.getD_cons_succ, List.getD_cons_zero, List.setIfInBounds_toArray, List.set_cons_zero, List.set_cons_succ, h8, h15] at hK ⊢
              go_simp
              exact hK.out _ _ (Below.refl _ _) rfl
            exact owes_nil
          · intro v wf hj hr
            have hl : v 16 = .bool false := hr 16 (by decide)
            simp only [o7ttD, putAll, Act.put, List.getD_cons_succ, List.getD_cons_zero, List.setIfInBounds_toArray, List.set_cons_zero, List.set_cons_succ, hl]
            clear hl hr
            have HJ := Lib.hid hj
            clear hj
            go_wp2_with fail
            go_meet
            exact ⟨rfl, HJ.out⟩
    case rest =>
      obtain ⟨rfl, kc⟩ := hcut
      have KC := Lib.hid kc
      clear kc K3
      obtain ⟨⟨a0, a1, a2, _⟩, i1⟩ := KC.out.p (w.heap.size, x) (by simp)
      go_upto_region 10 with fail
      have z1 := below_new wc (.cells #[.int .i64 x.t.k, .slice x.A x.t.v.length x.c, .slice x.A' x.t.p.length x.c'] 25)
      have r1 := rowP_lay wc (d + 40) [x] (by intro q hq; rw [List.mem_singleton.1 hq]; exact i1) (by simp)
      have r1' : Pw (wc.alloc (.cells #[.int .i64 x.t.k, .slice x.A x.t.v.length x.c, .slice x.A' x.t.p.length x.c'] 25)) 0 (wc.alloc (.cells #[.int .i64 x.t.k, .slice x.A x.t.v.length x.c, .slice x.A' x.t.p.length x.c'] 25)).heap.size (d + 40) (some ⟨wc.heap.size, 0, none⟩) 1 [x.t] := r1
      have kz := KC.out.next z1
      clear r1
      have sz := size_alloc wc (.cells #[.int .i64 x.t.k, .slice x.A x.t.v.length x.c, .slice x.A' x.t.p.length x.c'] 25)
      generalize hV : World.alloc wc (.cells #[.int .i64 x.t.k, .slice x.A x.t.v.length x.c, .slice x.A' x.t.p.length x.c'] 25) = w7 at z1 r1' kz sz ⊢
      clear hV
      obtain ⟨n, hn⟩ : ∃ n : Pt, n = ⟨.mk 12 [] [x.t], none, 0, some ⟨wc.heap.size, 0, none⟩, 1⟩ := ⟨_, rfl⟩
      have iN : n.In w7 (d + 41) := by rw [hn]; exact ⟨knd_lit 12 (by omega) _ _, ⟨0, rw_nil _ _ _ _⟩, r1'⟩
      have HN := Lib.hid (show n.t = .mk 12 [] [x.t] by rw [hn])
      have k4 : PS w (d + 41) ((wc.heap.size + 1, n) :: [(gb, b), (ga, a), (w.heap.size, x)]) [(w.heap.size + 1, y)] (w7.alloc (.cells #[.int .i64 12, .slice none 0 0, .slice (some ⟨wc.heap.size, 0, none⟩) 1 1] 25)) := by
        have k := (kz.up (show d + 40 ≤ d + 41 by omega)).addP n iN
        rw [sz] at k
        rw [hn] at k ⊢
        exact k
      generalize hV : World.alloc w7 _ = w8 at k4 ⊢
      clear hV
      have K4 := Lib.hid k4
      clear k4 kz r1' iN hn z1 sz a0 a1 a2 i1 KC
      generalize wc.heap.size + 1 = gn at *
      cases hN : okP 12 n.t
      · skip
        refine region_phase_all [0, 1, 2, 3, 4, 5, 6, 7, 8, 9, 10, 11, 12, 13, 14, 15, 16, 17, 18, 19, 20, 21] o10fD o10fE (fun w' => PS w (d + 41) [(gn, n), (gb, b), (ga, a), (w.heap.size, x)] [(w.heap.size + 1, y)] w') (saidOf [Is (n.val), Is (.int .i64 2), Is (.bool (true)), Is (.bool (true)), Is undef, Is undef, Is undef, Is undef, Is undef, Is undef, Is undef, Is undef, Is undef, Is undef, Is undef, Is undef, Is undef, Is (.bool true), Is (.bool true), Is (.bool true), Is (.bool true), Is (.bool true)]) 75 (by rfl) (by kernel_rfl) (by kernel_rfl) (by kernel_rfl) (fun _ _ h hb => h.next hb) (stays_said _ (stays_cons (Is.stays _) (stays_cons (Is.stays _) (stays_cons (Is.stays _) (stays_cons (Is.stays _) (stays_cons (Is.stays _) (stays_cons (Is.stays _) (stays_cons (Is.stays _) (stays_cons (Is.stays _) (stays_cons (Is.stays _) (stays_cons (Is.stays _) (stays_cons (Is.stays _) (stays_cons (Is.stays _) (stays_cons (Is.stays _) (stays_cons (Is.stays _) (stays_cons (Is.stays _) (stays_cons (Is.stays _) (stays_cons (Is.stays _) (stays_cons (Is.stays _) (stays_cons (Is.stays _) (stays_cons (Is.stays _) (stays_cons (Is.stays _) (stays_cons (Is.stays _) stays_nil))))))))))))))))))))))) (K4.out.next (below_drewN _ _ 1)) (by kernel_rfl) ?_ ?_
        · skip
          refine owes_cons (Owes.mk (o := ({ dst := some 54, op := .load 25 (.tmp 7), type := 25, pos := "law.go:76", after := #[], guard := none } : Oper)) rfl (fun v wk hj hD K hK => ?_)) ?_
          · simp only [o10fD, o10fE, putAll, Act.put, List.getD_cons_zero, List.setIfInBounds_toArray, List.set_cons_zero, List.set_cons_succ] at hK ⊢
            obtain ⟨⟨a0, a1, a2, _⟩, _⟩ := hj.p (gn, n) (by simp)
            go_simp
            exact hK.out _ _ (Below.refl _ _) rfl
          refine owes_cons (Owes.mk (o := ({ dst := some 55, op := .call { callee := .value (.func 12), args := #[.tmp 54], argTypes := #[25] }, type := 30, pos := "law.go:76", after := #[{ on := 0, ground := .data }], guard := none } : Oper)) rfl (fun v wk hj hD K hK => ?_)) ?_
          · have h0 : v 0 = (n.val) := hD 0 (by decide)
            simp only [o10fD, o10fE, putAll, Act.put, List.getD_cons_succ, List.getD_cons_zero, List.setIfInBounds_toArray, List.set_cons_zero, List.set_cons_succ, h0] at hK ⊢
            go_simp
            refine (k_check wk (d + 41) n (hj.p (gn, n) (by simp)).2 2 (by rw [hN]; rfl)).mono ?_
            rintro e w2 ⟨rfl, hb⟩
            exact hK.out _ _ hb rfl
          refine owes_cons (Owes.mk (o := ({ dst := some 56, op := .binOp .neq 30 (.tmp 55) (.const (.int .i64 0)) 30, type := 4, pos := "law.go:76", after := #[{ on := 1, ground := .data }], guard := none } : Oper)) rfl (fun v wk hj hD K hK => ?_)) ?_
          · have h1 : v 1 = (.int .i64 2) := hD 1 (by decide)
            simp only [o10fD, o10fE, putAll, Act.put, List.getD_cons_succ, List.getD_cons_zero, List.setIfInBounds_toArray, List.set_cons_zero, List.set_cons_succ, h1] at hK ⊢
            go_simp
            exact hK.out _ _ (Below.refl _ _) rfl
          refine owes_cons (Owes.mk (o := ({ dst := some 57, op := .move (.tmp 56), type := 4, pos := "law.go:76", after := #[{ on := 2, ground := .data }, { on := 1, ground := .chain }], guard := none } : Oper)) rfl (fun v wk hj hD K hK => ?_)) ?_
          · have h2 : v 2 = (.bool (true)) := hD 2 (by decide)
            simp only [o10fD, o10fE, putAll, Act.put, List.getD_cons_succ, List.getD_cons_zero, List.setIfInBounds_toArray, List.set_cons_zero, List.set_cons_succ, h2] at hK ⊢
            go_simp
            exact hK.out _ _ (Below.refl _ _) rfl
          refine owes_cons (Owes.mk (o := ({ dst := some 58, op := .load 25 (.tmp 7), type := 25, pos := "law.go:76", after := #[{ on := 3, ground := .guard }], guard := some (3, false) } : Oper)) rfl (fun v wk hj hD K hK => ?_)) ?_
          · have h3 : v 3 = (.bool (true)) := hD 3 (by decide)
            simp only [o10fD, o10fE, putAll, Act.put, List.getD_cons_succ, List.getD_cons_zero, List.setIfInBounds_toArray, List.set_cons_zero, List.set_cons_succ, h3] at hK ⊢
            go_simp
            exact hK.out _ _ (Below.refl _ _) rfl
          refine owes_cons (Owes.mk (o := ({ dst := some 59, op := .load 27 (.tmp 3), type := 27, pos := "law.go:76", after := #[{ on := 3, ground := .guard }], guard := some (3, false) } : Oper)) rfl (fun v wk hj hD K hK => ?_)) ?_
          · have h3 : v 3 = (.bool (true)) := hD 3 (by decide)
            simp only [o10fD, o10fE, putAll, Act.put, List.getD_cons_succ, List.getD_cons_zero, List.setIfInBounds_toArray, List.set_cons_zero, List.set_cons_succ, h3] at hK ⊢
            go_simp
            exact hK.out _ _ (Below.refl _ _) rfl
          refine owes_cons (Owes.mk (o := ({ dst := some 60, op := .call { callee := .value (.func 14), args := #[.tmp 58, .tmp 59], argTypes := #[25, 27] }, type := 4, pos := "law.go:76", after := #[{ on := 4, ground := .data }, { on := 5, ground := .data }, { on := 3, ground := .chain }, { on := 3, ground := .guard }], guard := some (3, false) } : Oper)) rfl (fun v wk hj hD K hK => ?_)) ?_
          · have h3 : v 3 = (.bool (true)) := hD 3 (by decide)
            have h4 : v 4 = undef := hD 4 (by decide)
            have h5 : v 5 = undef := hD 5 (by decide)
            simp only [o10fD, o10fE, putAll, Act.put, List.getD_cons_succ, List.getD_cons_zero, List.setIfInBounds_toArray, List.set_cons_zero, List.set_cons_succ, h3, h4, h5] at hK ⊢
            go_simp
            exact hK.out _ _ (Below.refl _ _) rfl
          refine owes_cons (Owes.mk (o := ({ dst := some 61, op := .load 25 (.tmp 2), type := 25, pos := "law.go:76", after := #[{ on := 3, ground := .guard }], guard := some (3, false) } : Oper)) rfl (fun v wk hj hD K hK => ?_)) ?_
          · have h3 : v 3 = (.bool (true)) := hD 3 (by decide)
            simp only [o10fD, o10fE, putAll, Act.put, List.getD_cons_succ, List.getD_cons_zero, List.setIfInBounds_toArray, List.set_cons_zero, List.set_cons_succ, h3] at hK ⊢
            go_simp
            exact hK.out _ _ (Below.refl _ _) rfl
          refine owes_cons (Owes.mk (o := ({ dst := some 62, op := .load 27 (.tmp 3), type := 27, pos := "law.go:76", after := #[{ on := 3, ground := .guard }], guard := some (3, false) } : Oper)) rfl (fun v wk hj hD K hK => ?_)) ?_
          · have h3 : v 3 = (.bool (true)) := hD 3 (by decide)
            simp only [o10fD, o10fE, putAll, Act.put, List.getD_cons_succ, List.getD_cons_zero, List.setIfInBounds_toArray, List.set_cons_zero, List.set_cons_succ, h3] at hK ⊢
            go_simp
            exact hK.out _ _ (Below.refl _ _) rfl
          refine owes_cons (Owes.mk (o := ({ dst := some 63, op := .call { callee := .value (.func 14), args := #[.tmp 61, .tmp 62], argTypes := #[25, 27] }, type := 4, pos := "law.go:76", after := #[{ on := 7, ground := .data }, { on := 8, ground := .data }, { on := 6, ground := .chain }, { on := 3, ground := .guard }], guard := some (3, false) } : Oper)) rfl (fun v wk hj hD K hK => ?_)) ?_
          · have h3 : v 3 = (.bool (true)) := hD 3 (by decide)
            have h7 : v 7 = undef := hD 7 (by decide)
            have h8 : v 8 = undef := hD 8 (by decide)
            simp only [o10fD, o10fE, putAll, Act.put, List.getD_cons_succ, List.getD_cons_zero, List.setIfInBounds_toArray, List.set_cons_zero, List.set_cons_succ, h3, h7, h8] at hK ⊢
            go_simp
            exact hK.out _ _ (Below.refl _ _) rfl
          refine owes_cons (Owes.mk (o := ({ dst := some 64, op := .binOp .neq 4 (.tmp 60) (.tmp 63) 4, type := 4, pos := "law.go:76", after := #[{ on := 6, ground := .data }, { on := 9, ground := .data }, { on := 3, ground := .guard }], guard := some (3, false) } : Oper)) rfl (fun v wk hj hD K hK => ?_)) ?_
          · have h3 : v 3 = (.bool (true)) := hD 3 (by decide)
            have h6 : v 6 = undef := hD 6 (by decide)
            have h9 : v 9 = undef := hD 9 (by decide)
            simp only [o10fD, o10fE, putAll, Act.put, List.getD_cons_succ, List.getD_cons_zero, List.setIfInBounds_toArray, List.set_cons_zero, List.set_cons_succ, h3, h6, h9] at hK ⊢
            go_simp
            exact hK.out _ _ (Below.refl _ _) rfl
          refine owes_cons (Owes.mk (o := ({ dst := some 65, op := .move (.tmp 64), type := 4, pos := "law.go:76", after := #[{ on := 10, ground := .data }, { on := 9, ground := .chain }, { on := 3, ground := .guard }], guard := some (3, false) } : Oper)) rfl (fun v wk hj hD K hK => ?_)) ?_
          · have h3 : v 3 = (.bool (true)) := hD 3 (by decide)
            have h10 : v 10 = undef := hD 10 (by decide)
            simp only [o10fD, o10fE, putAll, Act.put, List.getD_cons_succ, List.getD_cons_zero, List.setIfInBounds_toArray, List.set_cons_zero, List.set_cons_succ, h3, h10] at hK ⊢
            go_simp
            exact hK.out _ _ (Below.refl _ _) rfl
          refine owes_cons (Owes.mk (o := ({ dst := some 66, op := .load 25 (.tmp 7), type := 25, pos := "law.go:76", after := #[{ on := 11, ground := .guard }], guard := some (11, true) } : Oper)) rfl (fun v wk hj hD K hK => ?_)) ?_
          · have h11 : v 11 = undef := hD 11 (by decide)
            simp only [o10fD, o10fE, putAll, Act.put, List.getD_cons_succ, List.getD_cons_zero, List.setIfInBounds_toArray, List.set_cons_zero, List.set_cons_succ, h11] at hK ⊢
            go_simp
            exact hK.out _ _ (Below.refl _ _) rfl
          refine owes_cons (Owes.mk (o := ({ dst := some 67, op := .call { callee := .value (.func 16), args := #[.tmp 66], argTypes := #[25] }, type := 25, pos := "law.go:76", after := #[{ on := 12, ground := .data }, { on := 11, ground := .chain }, { on := 11, ground := .guard }], guard := some (11, true) } : Oper)) rfl (fun v wk hj hD K hK => ?_)) ?_
          · have h11 : v 11 = undef := hD 11 (by decide)
            have h12 : v 12 = undef := hD 12 (by decide)
            simp only [o10fD, o10fE, putAll, Act.put, List.getD_cons_succ, List.getD_cons_zero, List.setIfInBounds_toArray, List.set_cons_zero, List.set_cons_succ, h11, h12] at hK ⊢
            go_simp
            exact hK.out _ _ (Below.refl _ _) rfl
          refine owes_cons (Owes.mk (o := ({ dst := some 68, op := .load 25 (.tmp 2), type := 25, pos := "law.go:76", after := #[{ on := 11, ground := .guard }], guard := some (11, true) } : Oper)) rfl (fun v wk hj hD K hK => ?_)) ?_
          · have h11 : v 11 = undef := hD 11 (by decide)
            simp only [o10fD, o10fE, putAll, Act.put, List.getD_cons_succ, List.getD_cons_zero, List.setIfInBounds_toArray, List.set_cons_zero, List.set_cons_succ, h11] at hK ⊢
            go_simp
            exact hK.out _ _ (Below.refl _ _) rfl
          refine owes_cons (Owes.mk (o := ({ dst := some 69, op := .call { callee := .value (.func 18), args := #[.tmp 67, .tmp 68], argTypes := #[25, 25] }, type := 4, pos := "law.go:76", after := #[{ on := 13, ground := .data }, { on := 14, ground := .data }, { on := 13, ground := .chain }, { on := 11, ground := .guard }], guard := some (11, true) } : Oper)) rfl (fun v wk hj hD K hK => ?_)) ?_
          · have h11 : v 11 = undef := hD 11 (by decide)
            have h13 : v 13 = undef := hD 13 (by decide)
            have h14 : v 14 = undef := hD 14 (by decide)
            simp only [o10fD, o10fE, putAll, Act.put, List.getD_cons_succ, List.getD_cons_zero, List.setIfInBounds_toArray, List.set_cons_zero, List.set_cons_succ, h11, h13, h14] at hK ⊢
            go_simp
            exact hK.out _ _ (Below.refl _ _) rfl
          refine owes_cons (Owes.mk (o := ({ dst := some 70, op := .pick (.tmp 65) (.tmp 69) (.const (.bool false)), type := 4, pos := "law.go:76", after := #[{ on := 11, ground := .data }, { on := 15, ground := .data }, { on := 3, ground := .guard }], guard := some (3, false) } : Oper)) rfl (fun v wk hj hD K hK => ?_)) ?_
          · have h3 : v 3 = (.bool (true)) := hD 3 (by decide)
            have h11 : v 11 = undef := hD 11 (by decide)
            have h15 : v 15 = undef := hD 15 (by decide)
            simp only [o10fD, o10fE, putAll, Act.put, List.getD_cons_succ, List.getD_cons_zero, List.setIfInBounds_toArray, List.set_cons_zero, List.set_cons_succ, h3, h11, h15] at hK ⊢
            go_simp
            exact hK.out _ _ (Below.refl _ _) rfl
          refine owes_cons (Owes.mk (o := ({ dst := some 71, op := .pick (.tmp 57) (.const (.bool true)) (.tmp 70), type := 4, pos := "law.go:76", after := #[{ on := 3, ground := .data }, { on := 16, ground := .data }], guard := none } : Oper)) rfl (fun v wk hj hD K hK => ?_)) ?_
          · have h3 : v 3 = (.bool (true)) := hD 3 (by decide)
            have h16 : v 16 = undef := hD 16 (by decide)
            simp only [o10fD, o10fE, putAll, Act.put, List.getD_cons_succ, List.getD_cons_zero, List.setIfInBounds_toArray, List.set_cons_zero, List.set_cons_succ, h3, h16] at hK ⊢
            go_simp
            exact hK.out _ _ (Below.refl _ _) rfl
          refine owes_cons (Owes.mk (o := ({ dst := some 72, op := .move (.tmp 71), type := 4, pos := "law.go:76", after := #[{ on := 17, ground := .data }, { on := 15, ground := .chain }], guard := none } : Oper)) rfl (fun v wk hj hD K hK => ?_)) ?_
          · have h17 : v 17 = (.bool true) := hD 17 (by decide)
            simp only [o10fD, o10fE, putAll, Act.put, List.getD_cons_succ, List.getD_cons_zero, List.setIfInBounds_toArray, List.set_cons_zero, List.set_cons_succ, h17] at hK ⊢
            go_simp
            exact hK.out _ _ (Below.refl _ _) rfl
          refine owes_cons (Owes.mk (o := ({ dst := some 73, op := .call { callee := .value (.func 11), args := #[], argTypes := #[] }, type := 4, pos := "law.go:76", after := #[{ on := 18, ground := .chain }, { on := 18, ground := .guard }], guard := some (18, true) } : Oper)) rfl (fun v wk hj hD K hK => ?_)) ?_
          · have h18 : v 18 = (.bool true) := hD 18 (by decide)
            simp only [o10fD, o10fE, putAll, Act.put, List.getD_cons_succ, List.getD_cons_zero, List.setIfInBounds_toArray, List.set_cons_zero, List.set_cons_succ, h18] at hK ⊢
            go_simp
            refine (known_any wk).mono ?_
            rintro e w2 ⟨rfl, hb⟩
            exact hK.out _ _ hb rfl
          refine owes_cons (Owes.mk (o := ({ dst := some 74, op := .pick (.tmp 72) (.tmp 73) (.const (.bool false)), type := 4, pos := "law.go:76", after := #[{ on := 18, ground := .data }, { on := 19, ground := .data }], guard := none } : Oper)) rfl (fun v wk hj hD K hK => ?_)) ?_
          · have h18 : v 18 = (.bool true) := hD 18 (by decide)
            have h19 : v 19 = (.bool true) := hD 19 (by decide)
            simp only [o10fD, o10fE, putAll, Act.put, List.getD_cons_succ, List.getD_cons_zero, List.setIfInBounds_toArray, List.set_cons_zero, List.set_cons_succ, h18, h19] at hK ⊢
            go_simp
            exact hK.out _ _ (Below.refl _ _) rfl
          refine owes_cons (Owes.mk (o := ({ dst := some 4, op := .assign (.tmp 74), type := 4, pos := "law.go:76", after := #[{ on := 20, ground := .data }, { on := 19, ground := .chain }, { on := 0, ground := .phase }, { on := 1, ground := .phase }, { on := 2, ground := .phase }, { on := 3, ground := .phase }, { on := 4, ground := .phase }, { on := 5, ground := .phase }, { on := 6, ground := .phase }, { on := 7, ground := .phase }, { on := 8, ground := .phase }, { on := 9, ground := .phase }, { on := 10, ground := .phase }, { on := 11, ground := .phase }, { on := 12, ground := .phase }, { on := 13, ground := .phase }, { on := 14, ground := .phase }, { on := 15, ground := .phase }, { on := 16, ground := .phase }, { on := 17, ground := .phase }, { on := 18, ground := .phase }, { on := 19, ground := .phase }, { on := 20, ground := .phase }], guard := none } : Oper)) rfl (fun v wk hj hD K hK => ?_)) ?_
          · have h20 : v 20 = (.bool true) := hD 20 (by decide)
            simp only [o10fD, o10fE, putAll, Act.put, List.getD_cons_succ, List.getD_cons_zero, List.setIfInBounds_toArray, List.set_cons_zero, List.set_cons_succ, h20] at hK ⊢
            go_simp
            exact hK.out _ _ (Below.refl _ _) rfl
          exact owes_nil
        · intro v wf hj hr
          have hl : v 21 = .bool true := hr 21 (by decide)
          simp only [o10fD, putAll, Act.put, List.getD_cons_succ, List.getD_cons_zero, List.setIfInBounds_toArray, List.set_cons_zero, List.set_cons_succ, hl]
          clear hl hr
          have HJ := Lib.hid hj
          clear hj
          go_wp2
          go_ret
          exact ⟨rfl, HJ.out.bel⟩
      · skip
        refine region_phase_all [0, 1, 2, 3, 4, 5, 6, 7, 8, 9, 10, 11, 12, 13, 14, 15, 16, 17, 18, 19, 20, 21] o10tD o10tE (fun w' => PS w (d + 41) [(gn, n), (gb, b), (ga, a), (w.heap.size, x)] [(w.heap.size + 1, y)] w') (saidOf [Is (n.val), Is (.int .i64 0), Is (.bool (false)), Is (.bool (false)), Is (n.val), Is (y.v), Is (.bool (!testV x.t y.t)), Is (x.val), Is (y.v), Is (.bool (testV x.t y.t)), Is (.bool true), Is (.bool true), Is (n.val), IsPt 26 x.t, Is (x.val), Is (.bool true), Is (.bool true), Is (.bool true), Is (.bool true), Is (.bool true), Is (.bool true), Is (.bool true)]) 75 (by rfl) (by kernel_rfl) (by kernel_rfl) (by kernel_rfl) (fun _ _ h hb => h.next hb) (stays_said _ (stays_cons (Is.stays _) (stays_cons (Is.stays _) (stays_cons (Is.stays _) (stays_cons (Is.stays _) (stays_cons (Is.stays _) (stays_cons (Is.stays _) (stays_cons (Is.stays _) (stays_cons (Is.stays _) (stays_cons (Is.stays _) (stays_cons (Is.stays _) (stays_cons (Is.stays _) (stays_cons (Is.stays _) (stays_cons (Is.stays _) (stays_cons (IsPt.stays _ _) (stays_cons (Is.stays _) (stays_cons (Is.stays _) (stays_cons (Is.stays _) (stays_cons (Is.stays _) (stays_cons (Is.stays _) (stays_cons (Is.stays _) (stays_cons (Is.stays _) (stays_cons (Is.stays _) stays_nil))))))))))))))))))))))) (K4.out.next (below_drewN _ _ 1)) (by kernel_rfl) ?_ ?_
        · skip
          refine owes_cons (Owes.mk (o := ({ dst := some 54, op := .load 25 (.tmp 7), type := 25, pos := "law.go:76", after := #[], guard := none } : Oper)) rfl (fun v wk hj hD K hK => ?_)) ?_
          · simp only [o10tD, o10tE, putAll, Act.put, List.getD_cons_zero, List.setIfInBounds_toArray, List.set_cons_zero, List.set_cons_succ] at hK ⊢
            obtain ⟨⟨a0, a1, a2, _⟩, _⟩ := hj.p (gn, n) (by simp)
            go_simp
            exact hK.out _ _ (Below.refl _ _) rfl
          refine owes_cons (Owes.mk (o := ({ dst := some 55, op := .call { callee := .value (.func 12), args := #[.tmp 54], argTypes := #[25] }, type := 30, pos := "law.go:76", after := #[{ on := 0, ground := .data }], guard := none } : Oper)) rfl (fun v wk hj hD K hK => ?_)) ?_
          · have h0 : v 0 = (n.val) := hD 0 (by decide)
            simp only [o10tD, o10tE, putAll, Act.put, List.getD_cons_succ, List.getD_cons_zero, List.setIfInBounds_toArray, List.set_cons_zero, List.set_cons_succ, h0] at hK ⊢
            go_simp
            refine (k_check wk (d + 41) n (hj.p (gn, n) (by simp)).2 0 (by rw [hN]; rfl)).mono ?_
            rintro e w2 ⟨rfl, hb⟩
            exact hK.out _ _ hb rfl
          refine owes_cons (Owes.mk (o := ({ dst := some 56, op := .binOp .neq 30 (.tmp 55) (.const (.int .i64 0)) 30, type := 4, pos := "law.go:76", after := #[{ on := 1, ground := .data }], guard := none } : Oper)) rfl (fun v wk hj hD K hK => ?_)) ?_
          · have h1 : v 1 = (.int .i64 0) := hD 1 (by decide)
            simp only [o10tD, o10tE, putAll, Act.put, List.getD_cons_succ, List.getD_cons_zero, List.setIfInBounds_toArray, List.set_cons_zero, List.set_cons_succ, h1] at hK ⊢
            go_simp
            exact hK.out _ _ (Below.refl _ _) rfl
          refine owes_cons (Owes.mk (o := ({ dst := some 57, op := .move (.tmp 56), type := 4, pos := "law.go:76", after := #[{ on := 2, ground := .data }, { on := 1, ground := .chain }], guard := none } : Oper)) rfl (fun v wk hj hD K hK => ?_)) ?_
          · have h2 : v 2 = (.bool (false)) := hD 2 (by decide)
            simp only [o10tD, o10tE, putAll, Act.put, List.getD_cons_succ, List.getD_cons_zero, List.setIfInBounds_toArray, List.set_cons_zero, List.set_cons_succ, h2] at hK ⊢
            go_simp
            exact hK.out _ _ (Below.refl _ _) rfl
          refine owes_cons (Owes.mk (o := ({ dst := some 58, op := .load 25 (.tmp 7), type := 25, pos := "law.go:76", after := #[{ on := 3, ground := .guard }], guard := some (3, false) } : Oper)) rfl (fun v wk hj hD K hK => ?_)) ?_
          · have h3 : v 3 = (.bool (false)) := hD 3 (by decide)
            simp only [o10tD, o10tE, putAll, Act.put, List.getD_cons_succ, List.getD_cons_zero, List.setIfInBounds_toArray, List.set_cons_zero, List.set_cons_succ, h3] at hK ⊢
            obtain ⟨⟨a0, a1, a2, _⟩, _⟩ := hj.p (gn, n) (by simp)
            go_simp
            exact hK.out _ _ (Below.refl _ _) rfl
          refine owes_cons (Owes.mk (o := ({ dst := some 59, op := .load 27 (.tmp 3), type := 27, pos := "law.go:76", after := #[{ on := 3, ground := .guard }], guard := some (3, false) } : Oper)) rfl (fun v wk hj hD K hK => ?_)) ?_
          · have h3 : v 3 = (.bool (false)) := hD 3 (by decide)
            simp only [o10tD, o10tE, putAll, Act.put, List.getD_cons_succ, List.getD_cons_zero, List.setIfInBounds_toArray, List.set_cons_zero, List.set_cons_succ, h3] at hK ⊢
            obtain ⟨⟨a0, a1, a2, a3, a4, _⟩, _⟩ := hj.v (w.heap.size + 1, y) (by simp)
            go_simp
            exact hK.out _ _ (Below.refl _ _) rfl
          refine owes_cons (Owes.mk (o := ({ dst := some 60, op := .call { callee := .value (.func 14), args := #[.tmp 58, .tmp 59], argTypes := #[25, 27] }, type := 4, pos := "law.go:76", after := #[{ on := 4, ground := .data }, { on := 5, ground := .data }, { on := 3, ground := .chain }, { on := 3, ground := .guard }], guard := some (3, false) } : Oper)) rfl (fun v wk hj hD K hK => ?_)) ?_
          · have h3 : v 3 = (.bool (false)) := hD 3 (by decide)
            have h4 : v 4 = (n.val) := hD 4 (by decide)
            have h5 : v 5 = (y.v) := hD 5 (by decide)
            simp only [o10tD, o10tE, putAll, Act.put, List.getD_cons_succ, List.getD_cons_zero, List.setIfInBounds_toArray, List.set_cons_zero, List.set_cons_succ, h3, h4, h5] at hK ⊢
            go_simp
            refine (k_test wk (d + 41) (d + 41) n y (hj.p (gn, n) (by simp)).2 (hj.v (w.heap.size + 1, y) (by simp)).2 (!testV x.t y.t) (by rw [HN.out, test_not y.t HX.out (by rw [← HN.out]; exact hN)])).mono ?_
            rintro e w2 ⟨rfl, hb⟩
            exact hK.out _ _ hb rfl
          refine owes_cons (Owes.mk (o := ({ dst := some 61, op := .load 25 (.tmp 2), type := 25, pos := "law.go:76", after := #[{ on := 3, ground := .guard }], guard := some (3, false) } : Oper)) rfl (fun v wk hj hD K hK => ?_)) ?_
          · have h3 : v 3 = (.bool (false)) := hD 3 (by decide)
            simp only [o10tD, o10tE, putAll, Act.put, List.getD_cons_succ, List.getD_cons_zero, List.setIfInBounds_toArray, List.set_cons_zero, List.set_cons_succ, h3] at hK ⊢
            obtain ⟨⟨a0, a1, a2, _⟩, _⟩ := hj.p (w.heap.size, x) (by simp)
            go_simp
            exact hK.out _ _ (Below.refl _ _) rfl
          refine owes_cons (Owes.mk (o := ({ dst := some 62, op := .load 27 (.tmp 3), type := 27, pos := "law.go:76", after := #[{ on := 3, ground := .guard }], guard := some (3, false) } : Oper)) rfl (fun v wk hj hD K hK => ?_)) ?_
          · have h3 : v 3 = (.bool (false)) := hD 3 (by decide)
            simp only [o10tD, o10tE, putAll, Act.put, List.getD_cons_succ, List.getD_cons_zero, List.setIfInBounds_toArray, List.set_cons_zero, List.set_cons_succ, h3] at hK ⊢
            obtain ⟨⟨a0, a1, a2, a3, a4, _⟩, _⟩ := hj.v (w.heap.size + 1, y) (by simp)
            go_simp
            exact hK.out _ _ (Below.refl _ _) rfl
          refine owes_cons (Owes.mk (o := ({ dst := some 63, op := .call { callee := .value (.func 14), args := #[.tmp 61, .tmp 62], argTypes := #[25, 27] }, type := 4, pos := "law.go:76", after := #[{ on := 7, ground := .data }, { on := 8, ground := .data }, { on := 6, ground := .chain }, { on := 3, ground := .guard }], guard := some (3, false) } : Oper)) rfl (fun v wk hj hD K hK => ?_)) ?_
          · have h3 : v 3 = (.bool (false)) := hD 3 (by decide)
            have h7 : v 7 = (x.val) := hD 7 (by decide)
            have h8 : v 8 = (y.v) := hD 8 (by decide)
            simp only [o10tD, o10tE, putAll, Act.put, List.getD_cons_succ, List.getD_cons_zero, List.setIfInBounds_toArray, List.set_cons_zero, List.set_cons_succ, h3, h7, h8] at hK ⊢
            go_simp
            refine (test_any wk (d + 41) (d + 41) x y (hj.p (w.heap.size, x) (by simp)).2 (hj.v (w.heap.size + 1, y) (by simp)).2).mono ?_
            rintro e w2 ⟨rfl, hb⟩
            exact hK.out _ _ hb rfl
          refine owes_cons (Owes.mk (o := ({ dst := some 64, op := .binOp .neq 4 (.tmp 60) (.tmp 63) 4, type := 4, pos := "law.go:76", after := #[{ on := 6, ground := .data }, { on := 9, ground := .data }, { on := 3, ground := .guard }], guard := some (3, false) } : Oper)) rfl (fun v wk hj hD K hK => ?_)) ?_
          · have h3 : v 3 = (.bool (false)) := hD 3 (by decide)
            have h6 : v 6 = (.bool (!testV x.t y.t)) := hD 6 (by decide)
            have h9 : v 9 = (.bool (testV x.t y.t)) := hD 9 (by decide)
            simp only [o10tD, o10tE, putAll, Act.put, List.getD_cons_succ, List.getD_cons_zero, List.setIfInBounds_toArray, List.set_cons_zero, List.set_cons_succ, h3, h6, h9] at hK ⊢
            go_simp
            exact hK.out _ _ (Below.refl _ _) (by first | rfl | exact congrArg Value.bool (by cases testV x.t y.t <;> rfl))
          refine owes_cons (Owes.mk (o := ({ dst := some 65, op := .move (.tmp 64), type := 4, pos := "law.go:76", after := #[{ on := 10, ground := .data }, { on := 9, ground := .chain }, { on := 3, ground := .guard }], guard := some (3, false) } : Oper)) rfl (fun v wk hj hD K hK => ?_)) ?_
          · have h3 : v 3 = (.bool (false)) := hD 3 (by decide)
            have h10 : v 10 = (.bool true) := hD 10 (by decide)
            simp only [o10tD, o10tE, putAll, Act.put, List.getD_cons_succ, List.getD_cons_zero, List.setIfInBounds_toArray, List.set_cons_zero, List.set_cons_succ, h3, h10] at hK ⊢
            go_simp
            exact hK.out _ _ (Below.refl _ _) rfl
          refine owes_cons (Owes.mk (o := ({ dst := some 66, op := .load 25 (.tmp 7), type := 25, pos := "law.go:76", after := #[{ on := 11, ground := .guard }], guard := some (11, true) } : Oper)) rfl (fun v wk hj hD K hK => ?_)) ?_
          · have h11 : v 11 = (.bool true) := hD 11 (by decide)
            simp only [o10tD, o10tE, putAll, Act.put, List.getD_cons_succ, List.getD_cons_zero, List.setIfInBounds_toArray, List.set_cons_zero, List.set_cons_succ, h11] at hK ⊢
            obtain ⟨⟨a0, a1, a2, _⟩, _⟩ := hj.p (gn, n) (by simp)
            go_simp
            exact hK.out _ _ (Below.refl _ _) rfl
          refine owes_cons (Owes.mk (o := ({ dst := some 67, op := .call { callee := .value (.func 16), args := #[.tmp 66], argTypes := #[25] }, type := 25, pos := "law.go:76", after := #[{ on := 12, ground := .data }, { on := 11, ground := .chain }, { on := 11, ground := .guard }], guard := some (11, true) } : Oper)) rfl (fun v wk hj hD K hK => ?_)) ?_
          · have h11 : v 11 = (.bool true) := hD 11 (by decide)
            have h12 : v 12 = (n.val) := hD 12 (by decide)
            simp only [o10tD, o10tE, putAll, Act.put, List.getD_cons_succ, List.getD_cons_zero, List.setIfInBounds_toArray, List.set_cons_zero, List.set_cons_succ, h11, h12] at hK ⊢
            go_simp
            refine (negate_any wk (d + 41) n (hj.p (gn, n) (by simp)).2).mono ?_
            intro e w2 hn
            obtain ⟨q, rfl, tq, iq, hb⟩ := hn.one
            exact hK.out _ _ hb ⟨q, rfl, by rw [tq, HN.out]; exact ng_not (by rw [← HN.out]; exact hN), iq⟩
          refine owes_cons (Owes.mk (o := ({ dst := some 68, op := .load 25 (.tmp 2), type := 25, pos := "law.go:76", after := #[{ on := 11, ground := .guard }], guard := some (11, true) } : Oper)) rfl (fun v wk hj hD K hK => ?_)) ?_
          · have h11 : v 11 = (.bool true) := hD 11 (by decide)
            simp only [o10tD, o10tE, putAll, Act.put, List.getD_cons_succ, List.getD_cons_zero, List.setIfInBounds_toArray, List.set_cons_zero, List.set_cons_succ, h11] at hK ⊢
            obtain ⟨⟨a0, a1, a2, _⟩, _⟩ := hj.p (w.heap.size, x) (by simp)
            go_simp
            exact hK.out _ _ (Below.refl _ _) rfl
          refine owes_cons (Owes.mk (o := ({ dst := some 69, op := .call { callee := .value (.func 18), args := #[.tmp 67, .tmp 68], argTypes := #[25, 25] }, type := 4, pos := "law.go:76", after := #[{ on := 13, ground := .data }, { on := 14, ground := .data }, { on := 13, ground := .chain }, { on := 11, ground := .guard }], guard := some (11, true) } : Oper)) rfl (fun v wk hj hD K hK => ?_)) ?_
          · have h11 : v 11 = (.bool true) := hD 11 (by decide)
            obtain ⟨q13, h13, t13, r13⟩ : IsPt 26 x.t (v 13) wk := hD 13 (by decide)
            have h14 : v 14 = (x.val) := hD 14 (by decide)
            simp only [o10tD, o10tE, putAll, Act.put, List.getD_cons_succ, List.getD_cons_zero, List.setIfInBounds_toArray, List.set_cons_zero, List.set_cons_succ, h11, h13, h14] at hK ⊢
            go_simp
            refine (sameP_any 26 wk (d + 41) q13 x t13 r13 (hj.p (w.heap.size, x) (by simp)).2).mono ?_
            rintro e w2 ⟨rfl, hb⟩
            exact hK.out _ _ hb rfl
          refine owes_cons (Owes.mk (o := ({ dst := some 70, op := .pick (.tmp 65) (.tmp 69) (.const (.bool false)), type := 4, pos := "law.go:76", after := #[{ on := 11, ground := .data }, { on := 15, ground := .data }, { on := 3, ground := .guard }], guard := some (3, false) } : Oper)) rfl (fun v wk hj hD K hK => ?_)) ?_
          · have h3 : v 3 = (.bool (false)) := hD 3 (by decide)
            have h11 : v 11 = (.bool true) := hD 11 (by decide)
            have h15 : v 15 = (.bool true) := hD 15 (by decide)
            simp only [o10tD, o10tE, putAll, Act.put, List.getD_cons_succ, List.getD_cons_zero, List.setIfInBounds_toArray, List.set_cons_zero, List.set_cons_succ, h3, h11, h15] at hK ⊢
            go_simp
            exact hK.out _ _ (Below.refl _ _) rfl
          refine owes_cons (Owes.mk (o := ({ dst := some 71, op := .pick (.tmp 57) (.const (.bool true)) (.tmp 70), type := 4, pos := "law.go:76", after := #[{ on := 3, ground := .data }, { on := 16, ground := .data }], guard := none } : Oper)) rfl (fun v wk hj hD K hK => ?_)) ?_
          · have h3 : v 3 = (.bool (false)) := hD 3 (by decide)
            have h16 : v 16 = (.bool true) := hD 16 (by decide)
            simp only [o10tD, o10tE, putAll, Act.put, List.getD_cons_succ, List.getD_cons_zero, List.setIfInBounds_toArray, List.set_cons_zero, List.set_cons_succ, h3, h16] at hK ⊢
            go_simp
            exact hK.out _ _ (Below.refl _ _) rfl
          refine owes_cons (Owes.mk (o := ({ dst := some 72, op := .move (.tmp 71), type := 4, pos := "law.go:76", after := #[{ on := 17, ground := .data }, { on := 15, ground := .chain }], guard := none } : Oper)) rfl (fun v wk hj hD K hK => ?_)) ?_
          · have h17 : v 17 = (.bool true) := hD 17 (by decide)
            simp only [o10tD, o10tE, putAll, Act.put, List.getD_cons_succ, List.getD_cons_zero, List.setIfInBounds_toArray, List.set_cons_zero, List.set_cons_succ, h17] at hK ⊢
            go_simp
            exact hK.out _ _ (Below.refl _ _) rfl
          refine owes_cons (Owes.mk (o := ({ dst := some 73, op := .call { callee := .value (.func 11), args := #[], argTypes := #[] }, type := 4, pos := "law.go:76", after := #[{ on := 18, ground := .chain }, { on := 18, ground := .guard }], guard := some (18, true) } : Oper)) rfl (fun v wk hj hD K hK => ?_)) ?_
          · have h18 : v 18 = (.bool true) := hD 18 (by decide)
            simp only [o10tD, o10tE, putAll, Act.put, List.getD_cons_succ, List.getD_cons_zero, List.setIfInBounds_toArray, List.set_cons_zero, List.set_cons_succ, h18] at hK ⊢
            go_simp
            refine (known_any wk).mono ?_
            rintro e w2 ⟨rfl, hb⟩
            exact hK.out _ _ hb rfl
          refine owes_cons (Owes.mk (o := ({ dst := some 74, op := .pick (.tmp 72) (.tmp 73) (.const (.bool false)), type := 4, pos := "law.go:76", after := #[{ on := 18, ground := .data }, { on := 19, ground := .data }], guard := none } : Oper)) rfl (fun v wk hj hD K hK => ?_)) ?_
          · have h18 : v 18 = (.bool true) := hD 18 (by decide)
            have h19 : v 19 = (.bool true) := hD 19 (by decide)
            simp only [o10tD, o10tE, putAll, Act.put, List.getD_cons_succ, List.getD_cons_zero, List.setIfInBounds_toArray, List.set_cons_zero, List.set_cons_succ, h18, h19] at hK ⊢
            go_simp
            exact hK.out _ _ (Below.refl _ _) rfl
          refine owes_cons (Owes.mk (o := ({ dst := some 4, op := .assign (.tmp 74), type := 4, pos := "law.go:76", after := #[{ on := 20, ground := .data }, { on := 19, ground := .chain }, { on := 0, ground := .phase }, { on := 1, ground := .phase }, { on := 2, ground := .phase }, { on := 3, ground := .phase }, { on := 4, ground := .phase }, { on := 5, ground := .phase }, { on := 6, ground := .phase }, { on := 7, ground := .phase }, { on := 8, ground := .phase }, { on := 9, ground := .phase }, { on := 10, ground := .phase }, { on := 11, ground := .phase }, { on := 12, ground := .phase }, { on := 13, ground := .phase }, { on := 14, ground := .phase }, { on := 15, ground := .phase }, { on := 16, ground := .phase }, { on := 17, ground := .phase }, { on := 18, ground := .phase }, { on := 19, ground := .phase }, { on := 20, ground := .phase }], guard := none } : Oper)) rfl (fun v wk hj hD K hK => ?_)) ?_
          · have h20 : v 20 = (.bool true) := hD 20 (by decide)
            simp only [o10tD, o10tE, putAll, Act.put, List.getD_cons_succ, List.getD_cons_zero, List.setIfInBounds_toArray, List.set_cons_zero, List.set_cons_succ, h20] at hK ⊢
            go_simp
            exact hK.out _ _ (Below.refl _ _) rfl
          exact owes_nil
        · intro v wf hj hr
          have hl : v 21 = .bool true := hr 21 (by decide)
          simp only [o10tD, putAll, Act.put, List.getD_cons_succ, List.getD_cons_zero, List.setIfInBounds_toArray, List.set_cons_zero, List.set_cons_succ, hl]
          clear hl hr
          have HJ := Lib.hid hj
          clear hj
          go_wp2
          go_ret
          exact ⟨rfl, HJ.out.bel⟩
end Go.Proofs.Ytiiccefnfepccaa
