/- pred.stands, pred.holds, pred.Test. -/
import Derived.Test.YtiiccefnfepccaaPC
namespace Go.Proofs.Ytiiccefnfepccaa
set_option maxRecDepth 100000
open Go.RowKit Go.Sort

/-- How it stands to the first, and the last one. -/
def relI (k a b : Int) : Bool :=
  if k = 3 then decide (a < 0) else if k = 4 then decide (a ≤ 0) else if k = 5 then decide (0 < a) else if k = 6 then decide (0 ≤ a)
  else if k = 7 then decide (0 ≤ a) && decide (b < 0) else if k = 8 then decide (0 < a) && decide (b < 0) else if k = 9 then decide (a < 0) || decide (0 < b) else false
def hdV (l : List V) : V := l.headD (.mk 0 0 ⟨#[]⟩ [] [])
def ltV (l : List V) : V := l.getLastD (.mk 0 0 ⟨#[]⟩ [] [])
def standV (t : P) (v : V) : Bool := !t.v.any (fun x => x.k != v.k) && relI t.k (cmpV 12 v (hdV t.v)) (cmpV 12 v (ltV t.v))
theorem hdV_at {l : List V} {x : V} (h : l[0]? = some x) : hdV l = x := by
  cases l with
  | nil => simp at h
  | cons y r => simp at h; exact h
theorem ltV_at {l : List V} {x : V} (h : l[l.length - 1]? = some x) : ltV l = x := by
  unfold ltV
  rw [List.getLastD_eq_getLast?, List.getLast?_eq_getElem?, h]; rfl

theorem enters63 : Enters 63 := fun _ _ => rfl
set_option maxHeartbeats 800000 in
/-- Is it of another kind? -/
theorem otherKind_any (w : World) (g : Nat) (y : At) (hB : Bx w g y) : PredsV 63 #[.pointer (some ⟨g, 0, none⟩)] w (fun t => t.k != y.t.k) := by
  intro W d x hb _
  obtain ⟨l1, _⟩ := hB.below hb hB.blk.lt
  have hg : g < W.heap.size := Nat.lt_of_lt_of_le hB.blk.lt hb.size
  have hb' := below_new W (.cells #[.int .i64 x.t.k, .int .i64 x.t.n, .string x.t.s, .slice x.A x.t.l.length x.c, .slice x.A' x.t.m.length x.c'] 27)
  have l2 := cell_below hb' l1 hg
  have C0 := (Bx.new W x).c0
  have B0 := Lib.hid hb'
  show Calls Try.prog 63 #[x.v, .pointer (some ⟨g, 0, none⟩)] W fun e w' => e = .returned (.bool (x.t.k != y.t.k)) ∧ Below W.heap.size W w'
  clear hB hb hb' l1
  unfold At.v
  go_enter Try.func63, Try.ntmps63
  go_wp2
  go_ret
  exact ⟨rfl, B0.out⟩

theorem fits_kind {t : P} (h : fitsP t = true) : 1 ≤ t.k ∧ t.k ≤ 14 := by
  unfold fitsP fitsN at h
  refine ⟨?_, ?_⟩
  all_goals
    repeat' split at h
    all_goals first | omega | cases h

/-- Two boxes: a predicate's and a value's. -/
theorem boxesPV (w : World) (x : Pt) (y : At) (W : World) (hW : (w.alloc (.cells #[.int .i64 x.t.k, .slice x.A x.t.v.length x.c, .slice x.A' x.t.p.length x.c'] 25)).alloc (.cells #[.int .i64 y.t.k, .int .i64 y.t.n, .string y.t.s, .slice y.A y.t.l.length y.c, .slice y.A' y.t.m.length y.c'] 27) = W) :
    BP W w.heap.size x ∧ Bx W (w.heap.size + 1) y ∧ W.heap.size = w.heap.size + 1 + 1 ∧ Below w.heap.size w W := by
  subst hW
  have h2 := Bx.new (w.alloc (.cells #[.int .i64 x.t.k, .slice x.A x.t.v.length x.c, .slice x.A' x.t.p.length x.c'] 25)) y
  rw [size_alloc] at h2
  exact ⟨(BP.new w x).next (below_new _ _), h2, by simp, below_new2 _ _ _⟩

theorem of_regrown {w : World} {f : Nat} {args : Array Value} {v : Value} (h : ∀ X, Below w.heap.size w X → Calls Try.prog f args X fun x w' => x = .returned v ∧ Below X.heap.size X w') (d : Nat) (os : Array Obj) :
    Calls Try.prog f args (grow (redrawn w d) os) fun x w'' => x = .returned v ∧ ∃ p : Regrown, w'' = grow (redrawn w p.d) p.os :=
  Calls.regrown_of (h _ (below_regrown w d os))

set_option maxHeartbeats 6400000 in
theorem stands_any (w : World) (d e : Nat) (x : Pt) (y : At) (hx : x.In w d) (hy : y.In w e) (h0 : 0 < x.t.v.length) (hk : 3 ≤ x.t.k) (hk2 : x.t.k ≤ 9) :
    Calls Try.prog 48 #[x.val, y.v] w fun r w' => r = .returned (.bool (standV x.t y.t)) ∧ Below w.heap.size w w' := by
  obtain ⟨d', rfl⟩ := hx.pos
  have RV := Lib.hid hx.2.1
  have HY := Lib.hid hy
  have HK := Lib.hid (And.intro hk hk2)
  clear hx hy hk hk2
  unfold Pt.val At.v
  go_enter Try.func48, Try.ntmps48
  go_upto_region 2 with fail
  generalize hW : World.alloc (World.alloc _ _) _ = W
  obtain ⟨k1, k2, hz, hb⟩ := boxesPV _ _ _ _ hW
  have K1 := Lib.hid k1
  have K2 := Lib.hid k2
  have HB := Lib.hid hb
  obtain ⟨a0, a1, a2, _⟩ := k1
  clear hz hb hW k2
  obtain ⟨n, rv⟩ := RV.out
  have RW := Lib.hid rv
  clear rv RV
  have CT := Lib.hid (containsVs 63 enters63 #[.pointer (some ⟨w.heap.size + 1, 0, none⟩)] _ W (otherKind_any W _ y K2.out) n _ _ _ (RW.out.next HB.out))
  go_wp2_with fail
  refine CT.out.mono ?_
  rintro r w1 ⟨rfl, hb1⟩
  have B1 := Lib.hid (bnext HB.out hb1)
  have K3 := Lib.hid (K1.out.next hb1)
  have K4 := Lib.hid (K2.out.next hb1)
  clear hb1 CT a0 a1 a2
  cases hq : x.t.v.any (fun u => u.k != y.t.k)
  · go_upto_region 4 with fail
    obtain ⟨b, off, z, A1, c1, A2, c2, eA, _, _, hz, q, rz⟩ := (RW.out.next B1.out).elem (k := 0) h0
    obtain ⟨b', off', u, A3, c3, A4, c4, eA', _, _, hu, q', ru⟩ := (RW.out.next B1.out).elem (k := x.t.v.length - 1) (by omega)
    rw [eA] at eA'
    injection eA' with eA'
    injection eA' with e1 e2
    subst e1
    subst e2
    have EH := Lib.hid (hdV_at hz)
    have EL := Lib.hid (ltV_at hu)
    obtain ⟨a0, a1, a2, _⟩ := K3.out
    obtain ⟨y0, y1, y2, y3, y4, _⟩ := K4.out
    simp only [Nat.zero_mul, Nat.add_zero] at q
    obtain ⟨q0, q1, q2, q3, q4⟩ := q
    obtain ⟨p0, p1, p2, p3, p4⟩ := q'
    have C1 := Lib.hid (cmp_regrown (HY.out.next B1.out) rz)
    have C2 := Lib.hid (cmp_regrown (HY.out.next B1.out) ru)
    clear rz ru hz hu
    have hbl := RW.out.big
    have hk : ((x.t.v.length - 1 : Nat) : Int) = (x.t.v.length : Int) - 1 := by omega
    have h1 : (0 : Int) < (x.t.v.length : Int) := by omega
    have h2 : (0 : Int) ≤ (x.t.v.length : Int) - 1 := by omega
    have h3 : ((x.t.v.length : Int) - 1).toNat = x.t.v.length - 1 := by omega
    have h4 : (x.t.v.length : Int) - 1 < (x.t.v.length : Int) := by omega
    have h5 : IntKind.i64.wrap ((x.t.v.length : Int) - 1) = (x.t.v.length : Int) - 1 := IntWalk.i64_in _ (by omega)
    rw [eA] at a1
    clear eA
    replace a0 := cell_regrown a0
    replace a1 := cell_regrown a1
    replace y0 := cell_regrown y0
    replace y1 := cell_regrown y1
    replace y2 := cell_regrown y2
    replace y3 := cell_regrown y3
    replace y4 := cell_regrown y4
    replace q0 := cell_regrown q0
    replace q1 := cell_regrown q1
    replace q2 := cell_regrown q2
    replace q3 := cell_regrown q3
    replace q4 := cell_regrown q4
    replace p0 := cell_regrown p0
    replace p1 := cell_regrown p1
    replace p2 := cell_regrown p2
    replace p3 := cell_regrown p3
    replace p4 := cell_regrown p4
    refine wp_region_quiet_below (by kernel_rfl) (by kernel_rfl) ?_
    repeat (first | go_big_quiet_step (first | exact C1.out _ _ | exact C2.out _ _) | quiet_step (first | exact C1.out _ _ | exact C2.out _ _))
    refine wpQuiet_nil ?_
    intro _ hw'
    obtain ⟨⟨dq, osq⟩, hw''⟩ := hw'
    subst hw''
    have B2 := Lib.hid (bnext B1.out (below_regrown w1 dq osq))
    replace a0 := a0 dq osq
    clear a1 a2 y0 y1 y2 y3 y4 q0 q1 q2 q3 q4 p0 p1 p2 p3 p4 h1 h2 h3 h4 h5 hk C1 C2
    have FIN := Lib.hid (show standV x.t y.t = relI x.t.k (cmpV 12 y.t z) (cmpV 12 y.t u) by unfold standV; rw [hq, EH.out, EL.out]; rfl)
    clear hq EH EL
    generalize cmpV 12 y.t z = p at *
    generalize cmpV 12 y.t u = q at *
    generalize grow (redrawn w1 dq) osq = W2 at *
    obtain h | h | h | h | h | h | h : x.t.k = 3 ∨ x.t.k = 4 ∨ x.t.k = 5 ∨ x.t.k = 6 ∨ x.t.k = 7 ∨ x.t.k = 8 ∨ x.t.k = 9 := by have := HK.out; omega
    · have FIN2 := Lib.hid (show relI x.t.k p q = decide (p < 0) by rw [h]; rfl)
      rw [h] at a0
      clear h
      go_wp2
      go_ret
      exact ⟨by rw [FIN.out, FIN2.out]; rfl, B2.out⟩
    · have FIN2 := Lib.hid (show relI x.t.k p q = decide (p ≤ 0) by rw [h]; rfl)
      rw [h] at a0
      clear h
      go_wp2
      go_ret
      exact ⟨by rw [FIN.out, FIN2.out]; rfl, B2.out⟩
    · have FIN2 := Lib.hid (show relI x.t.k p q = decide (0 < p) by rw [h]; rfl)
      rw [h] at a0
      clear h
      go_wp2
      go_ret
      exact ⟨by rw [FIN.out, FIN2.out]; rfl, B2.out⟩
    · have FIN2 := Lib.hid (show relI x.t.k p q = decide (0 ≤ p) by rw [h]; rfl)
      rw [h] at a0
      clear h
      go_wp2
      go_ret
      exact ⟨by rw [FIN.out, FIN2.out]; rfl, B2.out⟩
    · have FIN2 := Lib.hid (show relI x.t.k p q = (decide (0 ≤ p) && decide (q < 0)) by rw [h]; rfl)
      rw [h] at a0
      clear h
      cases h1 : decide (0 ≤ p) <;> cases h2 : decide (q < 0)
      all_goals
        rw [h1, h2] at FIN2
        go_wp2
        go_ret
        exact ⟨by rw [FIN.out, FIN2.out]; rfl, B2.out⟩
    · have FIN2 := Lib.hid (show relI x.t.k p q = (decide (0 < p) && decide (q < 0)) by rw [h]; rfl)
      rw [h] at a0
      clear h
      cases h1 : decide (0 < p) <;> cases h2 : decide (q < 0)
      all_goals
        rw [h1, h2] at FIN2
        go_wp2
        go_ret
        exact ⟨by rw [FIN.out, FIN2.out]; rfl, B2.out⟩
    · have FIN2 := Lib.hid (show relI x.t.k p q = (decide (p < 0) || decide (0 < q)) by rw [h]; rfl)
      rw [h] at a0
      clear h
      cases h1 : decide (p < 0) <;> cases h2 : decide (0 < q)
      all_goals
        rw [h1, h2] at FIN2
        go_wp2
        go_ret
        exact ⟨by rw [FIN.out, FIN2.out]; rfl, B2.out⟩
  · have FIN := Lib.hid (show standV x.t y.t = false by unfold standV; rw [hq]; rfl)
    clear hq
    go_wp2
    go_ret
    exact ⟨by rw [FIN.out]; rfl, B1.out⟩

/-- Does it hold? r levels above the last one. -/
def holdV : Nat → V → P → Bool
  | 0, _, _ => false
  | r + 1, v, t => if t.k = 1 ∨ t.k = 10 then t.v.any (fun x => cmpV 12 v x == 0) else if t.k = 2 ∨ t.k = 11 then !t.v.any (fun x => cmpV 12 v x == 0)
    else if t.k = 12 then t.p.any (fun x => !holdV r v x) else if t.k = 13 then !t.p.any (fun x => !holdV r v x) else if t.k = 14 then t.p.any (holdV r v) else standV t v
def HoldsOk (r : Nat) : Prop := ∀ (w : World) (d e : Nat) (x : Pt) (y : At), okP r x.t = true → x.In w d → y.In w e →
  Calls Try.prog 29 #[x.val, y.v] w fun a w' => a = .returned (.bool (holdV r y.t x.t)) ∧ Below w.heap.size w w'

theorem same_at (w : World) (d e : Nat) (x y : At) (hx : x.In w d) (hy : y.In w e) : Calls Try.prog 45 #[x.v, y.v] w fun a w' => a = .returned (.bool (cmpV 12 x.t y.t == 0)) ∧ Below w.heap.size w w' := by
  have b0 := below_new2 w (.cells #[.int .i64 x.t.k, .int .i64 x.t.n, .string x.t.s, .slice x.A x.t.l.length x.c, .slice x.A' x.t.m.length x.c'] 27) (.cells #[.int .i64 y.t.k, .int .i64 y.t.n, .string y.t.s, .slice y.A y.t.l.length y.c, .slice y.A' y.t.m.length y.c'] 27)
  have CT := Lib.hid (cmp_any _ d e x.t y.t _ _ _ _ _ _ _ _ (Rd.next hx b0) (Rd.next hy b0))
  have B0 := Lib.hid b0
  clear hx hy b0
  unfold At.v
  go_enter Try.func45, Try.ntmps45
  go_wp2_with fail
  refine CT.out.mono ?_
  rintro a w1 ⟨rfl, hb⟩
  have HB := Lib.hid (bnext B0.out hb)
  clear hb CT
  go_wp2
  go_ret
  exact ⟨by rfl, HB.out⟩

theorem enters44 : Enters 44 := fun _ _ => rfl
theorem enters46 : Enters 46 := fun _ _ => rfl
theorem enters47 : Enters 47 := fun _ _ => rfl
theorem alloc_V (w : World) (x : At) : w.alloc (.cells #[.int .i64 x.t.k, .int .i64 x.t.n, .string x.t.s, .slice x.A x.t.l.length x.c, .slice x.A' x.t.m.length x.c'] 27) = w.alloc (.cells #[.int .i64 x.t.k, .int .i64 x.t.n, .string x.t.s, .slice x.A x.t.l.length x.c, .slice x.A' x.t.m.length x.c'] 27) := rfl
set_option maxHeartbeats 800000 in
/-- Is it the same? -/
theorem isSame_any (w : World) (e g : Nat) (y : At) (hB : Bx w g y) (hy : y.In w e) : PredsV 44 #[.pointer (some ⟨g, 0, none⟩)] w (fun t => cmpV 12 y.t t == 0) := by
  intro W d x hb hx
  have b0 := below_new W (.cells #[.int .i64 x.t.k, .int .i64 x.t.n, .string x.t.s, .slice x.A x.t.l.length x.c, .slice x.A' x.t.m.length x.c'] 27)
  have hB' := (hB.next hb).next b0
  have CT := Lib.hid (same_at _ e d y x ((hy.next hb).next b0) (hx.next b0))
  have B0 := Lib.hid b0
  obtain ⟨y0, y1, y2, y3, y4, _⟩ := hB'
  show Calls Try.prog 44 #[x.v, .pointer (some ⟨g, 0, none⟩)] W fun a w' => a = .returned (.bool (cmpV 12 y.t x.t == 0)) ∧ Below W.heap.size W w'
  clear hB hb hx hy b0
  unfold At.v
  go_enter Try.func44, Try.ntmps44
  go_wp2_with fail
  refine CT.out.mono ?_
  rintro a w1 ⟨rfl, hb⟩
  have HB := Lib.hid (bnext B0.out hb)
  clear hb CT
  go_wp2
  go_ret
  exact ⟨by rfl, HB.out⟩
set_option maxHeartbeats 800000 in
theorem does_any (r : Nat) (ih : HoldsOk r) (w : World) (e g : Nat) (y : At) (hB : Bx w g y) (hy : y.In w e) : PredsP 46 #[.pointer (some ⟨g, 0, none⟩)] w (fun t => okP r t = true) (fun t => holdV r y.t t) := by
  intro W d x ho hb hx
  have b0 := below_new W (.cells #[.int .i64 x.t.k, .slice x.A x.t.v.length x.c, .slice x.A' x.t.p.length x.c'] 25)
  have hB' := (hB.next hb).next b0
  have CT := Lib.hid (ih _ d e x y ho (hx.next b0) ((hy.next hb).next b0))
  have B0 := Lib.hid b0
  obtain ⟨y0, y1, y2, y3, y4, _⟩ := hB'
  show Calls Try.prog 46 #[x.val, .pointer (some ⟨g, 0, none⟩)] W fun a w' => a = .returned (.bool (holdV r y.t x.t)) ∧ Below W.heap.size W w'
  clear hB hb hx hy b0 ih ho
  unfold Pt.val
  go_enter Try.func46, Try.ntmps46
  go_wp2_with fail
  refine CT.out.mono ?_
  rintro a w1 ⟨rfl, hb⟩
  have HB := Lib.hid (bnext B0.out hb)
  clear hb CT
  go_wp2
  go_ret
  exact ⟨by rfl, HB.out⟩
set_option maxHeartbeats 800000 in
theorem doesNot_any (r : Nat) (ih : HoldsOk r) (w : World) (e g : Nat) (y : At) (hB : Bx w g y) (hy : y.In w e) : PredsP 47 #[.pointer (some ⟨g, 0, none⟩)] w (fun t => okP r t = true) (fun t => !holdV r y.t t) := by
  intro W d x ho hb hx
  have b0 := below_new W (.cells #[.int .i64 x.t.k, .slice x.A x.t.v.length x.c, .slice x.A' x.t.p.length x.c'] 25)
  have hB' := (hB.next hb).next b0
  have CT := Lib.hid (ih _ d e x y ho (hx.next b0) ((hy.next hb).next b0))
  have B0 := Lib.hid b0
  obtain ⟨y0, y1, y2, y3, y4, _⟩ := hB'
  show Calls Try.prog 47 #[x.val, .pointer (some ⟨g, 0, none⟩)] W fun a w' => a = .returned (.bool (!holdV r y.t x.t)) ∧ Below W.heap.size W w'
  clear hB hb hx hy b0 ih ho
  unfold Pt.val
  go_enter Try.func47, Try.ntmps47
  go_wp2_with fail
  refine CT.out.mono ?_
  rintro a w1 ⟨rfl, hb⟩
  have HB := Lib.hid (bnext B0.out hb)
  clear hb CT
  go_wp2
  go_ret
  exact ⟨by rfl, HB.out⟩
theorem stand_len {t : P} (h : fitsP t = true) (h1 : 3 ≤ t.k) (h2 : t.k ≤ 9) : 0 < t.v.length := by
  unfold fitsP fitsN at h
  by_cases q : t.k ≤ 6
  · rw [if_pos ⟨by omega, q⟩] at h
    simp at h; omega
  · rw [if_neg (by omega), if_pos ⟨by omega, h2⟩] at h
    simp at h; omega
set_option maxHeartbeats 6400000 in
theorem holds_succ (r : Nat) (ih : HoldsOk r) : HoldsOk (r + 1) := by
  intro w d e x y hok hx hy
  obtain ⟨d', rfl⟩ := hx.pos
  have ⟨n, rv⟩ := hx.2.1
  have RV := Lib.hid rv
  have RP := Lib.hid hx.2.2
  have HX := Lib.hid hx
  have HY := Lib.hid hy
  have IH := Lib.hid ih
  have hok' : fitsP x.t = true ∧ x.t.v.all (okV 12) = true ∧ x.t.p.all (okP r) = true := by simpa [okP, and_assoc] using hok
  have OP := Lib.hid (show ∀ z ∈ x.t.p, okP r z = true from List.all_eq_true.1 hok'.2.2)
  have FK := Lib.hid (fits_kind hok'.1)
  have FS := Lib.hid hok'.1
  clear hx hy ih hok hok' rv
  unfold Pt.val At.v
  go_enter Try.func29, Try.ntmps29
  go_upto_region 4 with fail
  generalize hW : World.alloc (World.alloc _ _) _ = W
  obtain ⟨k1, k2, hz, hb⟩ := boxesPV _ _ _ _ hW
  have K2 := Lib.hid k2
  have HB := Lib.hid hb
  obtain ⟨a0, a1, a2, _⟩ := k1
  have hg : w.heap.size + 1 < W.heap.size := by omega
  obtain ⟨y0, y1, y2, y3, y4, _⟩ := k2
  clear hz hb hW
  obtain h | h | h | h | h | h | h | h : x.t.k = 1 ∨ x.t.k = 10 ∨ x.t.k = 2 ∨ x.t.k = 11 ∨ x.t.k = 12 ∨ x.t.k = 13 ∨ x.t.k = 14 ∨ (3 ≤ x.t.k ∧ x.t.k ≤ 9) := by have := FK.out; omega
  · have FIN := Lib.hid (show holdV (r + 1) y.t x.t = x.t.v.any (fun x => cmpV 12 y.t x == 0) by rw [holdV]; simp [h])
    have CT := Lib.hid (containsVs 44 enters44 #[.pointer (some ⟨w.heap.size + 1, 0, none⟩)] _ W (isSame_any W e _ y K2.out (HY.out.next HB.out)) n _ _ _ (RV.out.next HB.out))
    rw [h] at a0
    clear h
    go_wp2_with fail
    refine CT.out.mono ?_
    rintro a w1 ⟨rfl, hb⟩
    have B1 := Lib.hid (bnext HB.out hb)
    clear hb CT a0 a1 a2 y0 y1 y2 y3 y4
    go_wp2
    go_ret
    exact ⟨by rw [FIN.out]; rfl, B1.out⟩
  · have FIN := Lib.hid (show holdV (r + 1) y.t x.t = x.t.v.any (fun x => cmpV 12 y.t x == 0) by rw [holdV]; simp [h])
    have CT := Lib.hid (containsVs 44 enters44 #[.pointer (some ⟨w.heap.size + 1, 0, none⟩)] _ W (isSame_any W e _ y K2.out (HY.out.next HB.out)) n _ _ _ (RV.out.next HB.out))
    rw [h] at a0
    clear h
    go_wp2_with fail
    refine CT.out.mono ?_
    rintro a w1 ⟨rfl, hb⟩
    have B1 := Lib.hid (bnext HB.out hb)
    clear hb CT a0 a1 a2 y0 y1 y2 y3 y4
    go_wp2
    go_ret
    exact ⟨by rw [FIN.out]; rfl, B1.out⟩
  · have FIN := Lib.hid (show holdV (r + 1) y.t x.t = !x.t.v.any (fun x => cmpV 12 y.t x == 0) by rw [holdV]; simp [h])
    have CT := Lib.hid (containsVs 44 enters44 #[.pointer (some ⟨w.heap.size + 1, 0, none⟩)] _ W (isSame_any W e _ y K2.out (HY.out.next HB.out)) n _ _ _ (RV.out.next HB.out))
    rw [h] at a0
    clear h
    go_wp2_with fail
    refine CT.out.mono ?_
    rintro a w1 ⟨rfl, hb⟩
    have B1 := Lib.hid (bnext HB.out hb)
    clear hb CT a0 a1 a2 y0 y1 y2 y3 y4
    go_wp2
    go_ret
    exact ⟨by rw [FIN.out]; rfl, B1.out⟩
  · have FIN := Lib.hid (show holdV (r + 1) y.t x.t = !x.t.v.any (fun x => cmpV 12 y.t x == 0) by rw [holdV]; simp [h])
    have CT := Lib.hid (containsVs 44 enters44 #[.pointer (some ⟨w.heap.size + 1, 0, none⟩)] _ W (isSame_any W e _ y K2.out (HY.out.next HB.out)) n _ _ _ (RV.out.next HB.out))
    rw [h] at a0
    clear h
    go_wp2_with fail
    refine CT.out.mono ?_
    rintro a w1 ⟨rfl, hb⟩
    have B1 := Lib.hid (bnext HB.out hb)
    clear hb CT a0 a1 a2 y0 y1 y2 y3 y4
    go_wp2
    go_ret
    exact ⟨by rw [FIN.out]; rfl, B1.out⟩
  · have FIN := Lib.hid (show holdV (r + 1) y.t x.t = x.t.p.any (fun x => !holdV r y.t x) by rw [holdV]; simp [h])
    have CT := Lib.hid (containsPs 47 enters47 #[.pointer (some ⟨w.heap.size + 1, 0, none⟩)] _ _ W (doesNot_any r IH.out W e _ y K2.out (HY.out.next HB.out)) d' _ _ _ OP.out (RP.out.next HB.out))
    rw [h] at a0
    clear h
    go_wp2_with fail
    refine CT.out.mono ?_
    rintro a w1 ⟨rfl, hb⟩
    have B1 := Lib.hid (bnext HB.out hb)
    clear hb CT a0 a1 a2 y0 y1 y2 y3 y4
    go_wp2
    go_ret
    exact ⟨by rw [FIN.out]; rfl, B1.out⟩
  · have FIN := Lib.hid (show holdV (r + 1) y.t x.t = !x.t.p.any (fun x => !holdV r y.t x) by rw [holdV]; simp [h])
    have CT := Lib.hid (containsPs 47 enters47 #[.pointer (some ⟨w.heap.size + 1, 0, none⟩)] _ _ W (doesNot_any r IH.out W e _ y K2.out (HY.out.next HB.out)) d' _ _ _ OP.out (RP.out.next HB.out))
    rw [h] at a0
    clear h
    go_wp2_with fail
    refine CT.out.mono ?_
    rintro a w1 ⟨rfl, hb⟩
    have B1 := Lib.hid (bnext HB.out hb)
    clear hb CT a0 a1 a2 y0 y1 y2 y3 y4
    go_wp2
    go_ret
    exact ⟨by rw [FIN.out]; rfl, B1.out⟩
  · have FIN := Lib.hid (show holdV (r + 1) y.t x.t = x.t.p.any (fun x => holdV r y.t x) by rw [holdV]; simp [h])
    have CT := Lib.hid (containsPs 46 enters46 #[.pointer (some ⟨w.heap.size + 1, 0, none⟩)] _ _ W (does_any r IH.out W e _ y K2.out (HY.out.next HB.out)) d' _ _ _ OP.out (RP.out.next HB.out))
    rw [h] at a0
    clear h
    go_wp2_with fail
    refine CT.out.mono ?_
    rintro a w1 ⟨rfl, hb⟩
    have B1 := Lib.hid (bnext HB.out hb)
    clear hb CT a0 a1 a2 y0 y1 y2 y3 y4
    go_wp2
    go_ret
    exact ⟨by rw [FIN.out]; rfl, B1.out⟩
  · have FIN := Lib.hid (show holdV (r + 1) y.t x.t = standV x.t y.t by rw [holdV, if_neg (by omega), if_neg (by omega), if_neg (by omega), if_neg (by omega), if_neg (by omega)])
    have CT := Lib.hid (stands_any W _ e x y (HX.out.next HB.out) (HY.out.next HB.out) (stand_len FS.out h.1 h.2) h.1 h.2)
    have n1 : (x.t.k == 1) = false := beq_eq_false_iff_ne.2 (by omega)
    have n10 : (x.t.k == 10) = false := beq_eq_false_iff_ne.2 (by omega)
    have n2 : (x.t.k == 2) = false := beq_eq_false_iff_ne.2 (by omega)
    have n11 : (x.t.k == 11) = false := beq_eq_false_iff_ne.2 (by omega)
    have n12 : (x.t.k == 12) = false := beq_eq_false_iff_ne.2 (by omega)
    have n13 : (x.t.k == 13) = false := beq_eq_false_iff_ne.2 (by omega)
    have n14 : (x.t.k == 14) = false := beq_eq_false_iff_ne.2 (by omega)
    clear h
    go_wp2_with fail
    refine CT.out.mono ?_
    rintro a w1 ⟨rfl, hb⟩
    have B1 := Lib.hid (bnext HB.out hb)
    clear hb CT a0 a1 a2 y0 y1 y2 y3 y4
    go_wp2
    go_ret
    exact ⟨by rw [FIN.out]; rfl, B1.out⟩
theorem holds_any : ∀ r, HoldsOk r
  | 0 => fun _ _ _ _ _ h => by simp [okP] at h
  | r + 1 => holds_succ r (holds_any r)

/-- Is it one, and does it hold? -/
def testV (t : P) (v : V) : Bool := okP 12 t && holdV 12 v t
set_option maxHeartbeats 1600000 in
theorem test_any (w : World) (d e : Nat) (x : Pt) (y : At) (hx : x.In w d) (hy : y.In w e) :
    Calls Try.prog 14 #[x.val, y.v] w fun a w' => a = .returned (.bool (testV x.t y.t)) ∧ Below w.heap.size w w' := by
  have HX := Lib.hid hx
  have HY := Lib.hid hy
  clear hx hy
  unfold Pt.val At.v
  go_enter Try.func14, Try.ntmps14
  go_wp2_with fail
  generalize hW : World.alloc (World.alloc _ _) _ = W
  obtain ⟨k1, k2, hz, hb⟩ := boxesPV _ _ _ _ hW
  have K1 := Lib.hid k1
  have K2 := Lib.hid k2
  have HB := Lib.hid hb
  clear hz hb hW k1 k2
  refine (pcheck_any W d x (HX.out.next HB.out)).mono ?_
  rintro a w1 ⟨rfl, hb⟩
  have B1 := Lib.hid (bnext HB.out hb)
  obtain ⟨a0, a1, a2, _⟩ := K1.out.next hb
  obtain ⟨y0, y1, y2, y3, y4, _⟩ := K2.out.next hb
  clear hb
  cases hq : okP 12 x.t
  · go_wp2
    go_ret
    exact ⟨by unfold testV; rw [hq]; rfl, B1.out⟩
  · have CT := Lib.hid (holds_any 12 w1 d e x y hq (HX.out.next B1.out) (HY.out.next B1.out))
    go_wp2_with fail
    refine CT.out.mono ?_
    rintro a w2 ⟨rfl, hb⟩
    have B2 := Lib.hid (bnext B1.out hb)
    clear hb CT a0 a1 a2 y0 y1 y2 y3 y4
    go_wp2
    go_ret
    exact ⟨by unfold testV; rw [hq]; rfl, B2.out⟩
end Go.Proofs.Ytiiccefnfepccaa
