/- Carried over from an earlier seat. -/
import Derived.Test.YtiiopbcihieblaaGreatDoorTE
namespace Go.Proofs.YtiiopbcihieblaaGreatDoor
set_option maxRecDepth 100000
set_option maxRecDepth 100000
open Go.RowKit Go.Sort

theorem same_at (w : World) (d e : Nat) (x y : At) (hx : x.In w d) (hy : y.In w e) : Calls Tryz.prog 47 #[x.v, y.v] w fun a w' => a = .returned (.bool (cmpV 12 x.t y.t == 0)) ∧ Below w.heap.size w w' := by
  have b0 := below_new2 w (.cells #[.int .i64 x.t.k, .int .i64 x.t.n, .string x.t.s, .slice x.A x.t.l.length x.c, .slice x.A' x.t.m.length x.c'] 39) (.cells #[.int .i64 y.t.k, .int .i64 y.t.n, .string y.t.s, .slice y.A y.t.l.length y.c, .slice y.A' y.t.m.length y.c'] 39)
  have CT := Lib.hid (cmp_any _ d e x.t y.t _ _ _ _ _ _ _ _ (Rd.next hx b0) (Rd.next hy b0))
  have B0 := Lib.hid b0
  clear hx hy b0
  unfold At.v
  go_enter Tryz.func47, Tryz.ntmps47
  go_wp2_with fail
  refine CT.out.mono ?_
  rintro a w1 ⟨rfl, hb⟩
  have HB := Lib.hid (bnext B0.out hb)
  clear hb CT
  go_wp2
  go_ret
  exact ⟨by rfl, HB.out⟩
def eqV (x y : V) : Bool := cmpV 12 x y == 0
theorem entWrV : Enters 130 := fun _ _ => by kernel_rfl
theorem entWrP : Enters 118 := fun _ _ => by kernel_rfl
theorem entSame : Enters 47 := fun _ _ => by kernel_rfl

/-- tree.isWritten of a value that may be. -/
def WrOk (r : Nat) : Prop := ∀ (w : World) (d : Nat) (x : At), okV r x.t = true → x.In w d →
  Calls Tryz.prog 92 #[x.v] w fun e w' => e = .returned (.bool (wrV r x.t)) ∧ Below w.heap.size w w'
set_option maxHeartbeats 800000 in
theorem closure_wr (r : Nat) (ih : WrOk r) (w : World) : PredsS 130 #[] w (fun t => okV r t = true) (fun t => !wrV r t) := by
  intro W d x ho _ hx
  have b0 := below_new W (.cells #[.int .i64 x.t.k, .int .i64 x.t.n, .string x.t.s, .slice x.A x.t.l.length x.c, .slice x.A' x.t.m.length x.c'] 39)
  have CK := Lib.hid (ih _ d x ho (hx.next b0))
  have B0 := Lib.hid b0
  clear hx b0 ih ho
  show Calls Tryz.prog 130 #[x.v] W fun e w' => e = .returned (.bool (!wrV r x.t)) ∧ Below W.heap.size W w'
  generalize wrV r x.t = b at *
  unfold At.v at *
  go_enter Tryz.func130, Tryz.ntmps130
  go_wp2_with fail
  refine CK.out.mono ?_
  rintro e w1 ⟨rfl, hb⟩
  have HB := Lib.hid (bnext B0.out hb)
  clear hb CK
  go_wp2
  go_ret
  exact ⟨rfl, HB.out⟩
set_option maxHeartbeats 800000 in
theorem areWr (r : Nat) (ih : WrOk r) (w : World) (d : Nat) (A : Option Addr) (c : Nat) (l : List V) (ho : ∀ x ∈ l, okV r x = true) (h : Rw w 0 w.heap.size d A c l) :
    Calls Tryz.prog 116 #[.slice A l.length c] w fun e w' => e = .returned (.bool (l.all (wrV r))) ∧ Below w.heap.size w w' := by
  have CK := Lib.hid (containsVS 130 entWrV #[] (fun t => okV r t = true) (fun t => !wrV r t) w d (closure_wr r ih w) A c l ho h)
  have e0 : (!l.any (fun t => !wrV r t)) = l.all (wrV r) := by rw [any_notT, Bool.not_not]
  rw [← e0]
  generalize l.any (fun t => !wrV r t) = b at *
  clear ih ho h e0
  go_enter Tryz.func116, Tryz.ntmps116
  go_wp2_with fail
  refine CK.out.mono ?_
  rintro e w1 ⟨rfl, hb⟩
  have HB := Lib.hid hb
  clear hb CK
  go_wp2
  go_ret
  exact ⟨rfl, HB.out⟩
theorem wrV_12 (r : Nat) (t : V) (h : (t.k == 1) = true ∨ (t.k == 2) = true) : wrV (r + 1) t = true := by
  have h' : t.k = 1 ∨ t.k = 2 := by simpa using h
  unfold wrV; rw [if_pos h']
theorem wrV_3 (r : Nat) (t : V) (h : (t.k == 3) = true) : wrV (r + 1) t = t.s.toList.all (fun c => decide (32 ≤ c.toNat)) := by
  have h' : t.k = 3 := by simpa using h
  unfold wrV; rw [if_neg (by omega), if_pos h']
theorem wrV_6 (r : Nat) (t : V) (h : (t.k == 6) = true) : wrV (r + 1) t = t.l.all (wrV r) := by
  have h' : t.k = 6 := by simpa using h
  show (if _ then _ else _) = _
  rw [if_neg (by omega), if_neg (by omega), if_pos h']
theorem wrV_no (r : Nat) (t : V) (h1 : (t.k == 1) = false) (h2 : (t.k == 2) = false) (h3 : (t.k == 3) = false) (h6 : (t.k == 6) = false) : wrV (r + 1) t = false := by
  have h1' : ¬ t.k = 1 := by simpa using h1
  have h2' : ¬ t.k = 2 := by simpa using h2
  have h3' : ¬ t.k = 3 := by simpa using h3
  have h6' : ¬ t.k = 6 := by simpa using h6
  unfold wrV; rw [if_neg (by omega), if_neg h3', if_neg h6']
set_option maxHeartbeats 1600000 in
theorem wr_succ (r : Nat) (ih : WrOk r) : WrOk (r + 1) := by
  intro w d x ho hx
  obtain ⟨d', rfl⟩ := hx.pos
  have RL := Lib.hid hx.2.1
  have OL := Lib.hid ((ok_parts r x.t).1 ho).2.1
  have SZ := hx.1.s1
  have IH := Lib.hid ih
  have W12 := Lib.hid (wrV_12 r x.t)
  have W3 := Lib.hid (wrV_3 r x.t)
  have W6 := Lib.hid (wrV_6 r x.t)
  have WN := Lib.hid (wrV_no r x.t)
  obtain ⟨ans, hans⟩ : ∃ b, b = wrV (r + 1) x.t := ⟨_, rfl⟩
  rw [← hans] at W12 W3 W6 WN ⊢
  clear hx ih ho hans
  unfold At.v
  go_enter Tryz.func92, Tryz.ntmps92
  go_upto_region 1 with fail
  have k1 := Bx.new w x
  generalize hW : World.alloc w _ = W
  have K1 : Hid (Bx W w.heap.size x) := Lib.hid (by rw [← hW]; exact k1)
  have HB : Hid (Below w.heap.size w W) := Lib.hid (by rw [← hW]; exact below_new _ _)
  obtain ⟨a0, a1, a2, a3, a4, _⟩ := K1.out
  clear hW k1
  cases n1 : (x.t.k == 1)
  case true =>
    have FIN := Lib.hid (W12.out (.inl n1))
    go_wp2
    go_ret
    exact ⟨by rw [FIN.out]; rfl, HB.out⟩
  cases n2 : (x.t.k == 2)
  case true =>
    have FIN := Lib.hid (W12.out (.inr n2))
    go_wp2
    go_ret
    exact ⟨by rw [FIN.out]; rfl, HB.out⟩
  cases n3 : (x.t.k == 3)
  case true =>
    have FIN := Lib.hid (W3.out n3)
    have CT := Lib.hid (wtext_any x.t.s W SZ)
    generalize x.t.s.toList.all (fun c => decide (32 ≤ c.toNat)) = b at *
    go_wp2_with fail
    refine CT.out.mono ?_
    rintro e w1 ⟨rfl, rfl⟩
    go_wp2
    go_ret
    exact ⟨by rw [FIN.out]; rfl, HB.out⟩
  cases n6 : (x.t.k == 6)
  case true =>
    have FIN := Lib.hid (W6.out n6)
    have CT := Lib.hid (areWr r IH.out W d' x.A x.c x.t.l OL.out (RL.out.next HB.out))
    generalize x.t.l.all (wrV r) = b at *
    go_wp2_with fail
    refine CT.out.mono ?_
    rintro e w1 ⟨rfl, hb⟩
    have HB1 := Lib.hid (bnext HB.out hb)
    clear hb
    go_wp2
    go_ret
    exact ⟨by rw [FIN.out]; rfl, HB1.out⟩
  have FIN := Lib.hid (WN.out n1 n2 n3 n6)
  go_wp2
  go_ret
  exact ⟨by rw [FIN.out]; rfl, HB.out⟩
theorem wr_any : ∀ r, WrOk r
  | 0 => fun _ _ _ h => by cases h
  | r + 1 => wr_succ r (wr_any r)

/-- tree.isWrittenPred of a predicate that may be. -/
def WrPOk (r : Nat) : Prop := ∀ (w : World) (d : Nat) (x : Pt), okP r x.t = true → x.In w d →
  Calls Tryz.prog 94 #[x.val] w fun e w' => e = .returned (.bool (wrP r x.t)) ∧ Below w.heap.size w w'
set_option maxHeartbeats 800000 in
theorem closure_wrP (r : Nat) (ih : WrPOk r) (w : World) : PredsP 118 #[] w (fun t => okP r t = true) (fun t => !wrP r t) := by
  intro W d x ho _ hx
  have b0 := below_new W (.cells #[.int .i64 x.t.k, .slice x.A x.t.v.length x.c, .slice x.A' x.t.p.length x.c'] 42)
  have CK := Lib.hid (ih _ d x ho (hx.next b0))
  have B0 := Lib.hid b0
  clear hx b0 ih ho
  show Calls Tryz.prog 118 #[x.val] W fun e w' => e = .returned (.bool (!wrP r x.t)) ∧ Below W.heap.size W w'
  generalize wrP r x.t = b at *
  unfold Pt.val at *
  go_enter Tryz.func118, Tryz.ntmps118
  go_wp2_with fail
  refine CK.out.mono ?_
  rintro e w1 ⟨rfl, hb⟩
  have HB := Lib.hid (bnext B0.out hb)
  clear hb CK
  go_wp2
  go_ret
  exact ⟨rfl, HB.out⟩
theorem okP_parts (r : Nat) (t : P) : okP (r + 1) t = true ↔ fitsP t = true ∧ (∀ x ∈ t.v, okV 12 x = true) ∧ (∀ x ∈ t.p, okP r x = true) := by
  show (fitsP t && t.v.all (okV 12) && t.p.all (okP r)) = true ↔ _
  rw [Bool.and_eq_true, Bool.and_eq_true, List.all_eq_true, List.all_eq_true, and_assoc]
set_option maxHeartbeats 1600000 in
theorem wrP_succ (r : Nat) (ih : WrPOk r) : WrPOk (r + 1) := by
  intro w d x ho hx
  obtain ⟨d', rfl⟩ := hx.pos
  obtain ⟨n, rv⟩ := hx.2.1
  obtain ⟨_, ov, op⟩ := (okP_parts r x.t).1 ho
  have RV := Lib.hid rv
  have RP := Lib.hid hx.2.2
  have OV := Lib.hid ov
  have OP := Lib.hid op
  have IH := Lib.hid ih
  have FIN := Lib.hid (show wrP (r + 1) x.t = (x.t.v.all (wrV 12) && !x.t.p.any (fun t => !wrP r t)) by rw [any_notT, Bool.not_not]; rfl)
  obtain ⟨ans, hans⟩ : ∃ b, b = wrP (r + 1) x.t := ⟨_, rfl⟩
  rw [← hans] at FIN ⊢
  clear hx ih ho hans rv ov op
  unfold Pt.val
  go_enter Tryz.func94, Tryz.ntmps94
  go_upto_region 1 with fail
  have k1 := BP.new w x
  generalize hW : World.alloc w _ = W
  have K1 : Hid (BP W w.heap.size x) := Lib.hid (by rw [← hW]; exact k1)
  have HB : Hid (Below w.heap.size w W) := Lib.hid (by rw [← hW]; exact below_new _ _)
  obtain ⟨a0, a1, a2, _⟩ := K1.out
  clear hW k1
  have CT := Lib.hid (areWr 12 (wr_any 12) W n x.A x.c x.t.v OV.out (RV.out.next HB.out))
  generalize x.t.v.all (wrV 12) = b at *
  go_wp2_with fail
  refine CT.out.mono ?_
  rintro e w1 ⟨rfl, hb⟩
  have HB1 := Lib.hid (bnext HB.out hb)
  have K2 := Lib.hid (K1.out.next hb)
  clear hb CT a0 a1 a2
  obtain ⟨a0, a1, a2, _⟩ := K2.out
  cases b
  · go_wp2_with fail
    go_ret
    exact ⟨by rw [FIN.out]; rfl, HB1.out⟩
  · have CP := Lib.hid (containsPs 118 entWrP #[] _ _ w1 (closure_wrP r IH.out w1) d' x.A' x.c' x.t.p OP.out (RP.out.next HB1.out))
    generalize x.t.p.any (fun t => !wrP r t) = b2 at *
    go_wp2_with fail
    refine CP.out.mono ?_
    rintro e w2 ⟨rfl, hb⟩
    have HB2 := Lib.hid (bnext HB1.out hb)
    clear hb CP
    go_wp2
    go_ret
    exact ⟨by rw [FIN.out]; rfl, HB2.out⟩
theorem wrP_any : ∀ r, WrPOk r
  | 0 => fun _ _ _ h => by cases h
  | r + 1 => wrP_succ r (wrP_any r)

/-- How many levels a predicate has. -/
noncomputable def hP : P → Nat := @P.rec (fun _ => Nat) (fun _ => Nat) (fun _ _ _ ih => ih + 1) 0 (fun _ _ a b => max a b)
noncomputable def hPs : List P → Nat := @P.rec_1 (fun _ => Nat) (fun _ => Nat) (fun _ _ _ ih => ih + 1) 0 (fun _ _ a b => max a b)
theorem hP_eq (p : P) : hP p = hPs p.p + 1 := by cases p; rfl
theorem hPs_mem : ∀ (l : List P) (x : P), x ∈ l → hP x ≤ hPs l
  | y :: l, x, h => by
    have e : hPs (y :: l) = max (hP y) (hPs l) := rfl
    rcases List.mem_cons.1 h with rfl | h
    · omega
    · have := hPs_mem l x h
      omega
/-- Two predicates the same, so many levels down. -/
def sameQ : Nat → P → P → Bool
  | 0, _, _ => true
  | r + 1, p, q => p.k == q.k && (eqL eqV p.v q.v && eqL (sameQ r) p.p q.p)
theorem eqL_congr {α : Type} (f g : α → α → Bool) : ∀ (l m : List α), (∀ x ∈ l, ∀ y, f x y = g x y) → eqL f l m = eqL g l m
  | [], [], _ => rfl
  | [], _ :: _, _ => rfl
  | _ :: _, [], _ => rfl
  | x :: l, y :: m, h => by
    simp only [eqL]
    rw [h x (by simp), eqL_congr f g l m (fun z hz => h z (by simp [hz]))]
theorem sameQ_top : ∀ (n m : Nat) (p q : P), hP p ≤ n → hP p ≤ m → sameQ n p q = sameQ m p q
  | 0, _, p, _, h, _ => by rw [hP_eq] at h; omega
  | _, 0, p, _, _, h => by rw [hP_eq] at h; omega
  | n + 1, m + 1, p, q, h1, h2 => by
    rw [hP_eq] at h1 h2
    simp only [sameQ]
    rw [eqL_congr (sameQ n) (sameQ m) p.p q.p (fun x hx y => by
      have := hPs_mem _ _ hx
      exact sameQ_top n m x y (by omega) (by omega))]
/-- Two predicates the same, however deep they are. -/
noncomputable def sameP (p q : P) : Bool := sameQ (hP p) p q
theorem eqL_nil' {α : Type} (f g : α → α → Bool) (l : List α) : eqL f l [] = eqL g l [] := by cases l <;> rfl
theorem sameP_leaf (p q : P) (h : q.p = []) : sameP p q = (p.k == q.k && (eqL eqV p.v q.v && eqL (fun _ _ => true) p.p [])) := by
  unfold sameP
  rw [hP_eq]
  simp only [sameQ]
  rw [h, eqL_nil' _ (fun _ _ => true)]
end Go.Proofs.YtiiopbcihieblaaGreatDoor

