/- Carried over from an earlier seat. -/
import Derived.Test.YtiiopbcihieblaaGreatDoorTH
import Derived.IntWalk
namespace Go.Proofs.YtiiopbcihieblaaGreatDoor
set_option maxRecDepth 100000
set_option maxRecDepth 100000
open Go.RowKit Go.Sort

noncomputable def sameA (f : List C → List C → Bool) (x y : Ag) : Bool := x.k == y.k && (x.s.toList == y.s.toList && (cmpV 12 x.v y.v == 0 && (sameP x.p y.p && f x.c y.c)))
noncomputable def sameCl (f : List C → List C → Bool) (x y : C) : Bool := x.n.toList == y.n.toList && eqL (sameA f) x.a y.a
/-- The same, so many chains down. -/
noncomputable def sameC : Nat → List C → List C → Bool
  | 0, _, _ => true
  | r + 1, l, m => eqL (sameCl (sameC r)) l m
/-- A predicate that is compared as it should be. -/
def SPred (Q : P → Prop) : Prop := ∀ (w : World) (d : Nat) (x y : Pt), Q y.t → x.In w d → y.In w d → Calls Tryz.prog 48 #[x.val, y.val] w fun e w' => e = .returned (.bool (sameP x.t y.t)) ∧ Below w.heap.size w w'
/-- All predicates in these calls, so far down, are such. -/
def AllQ (Q : P → Prop) : Nat → List C → Prop
  | 0, _ => True
  | r + 1, l => ∀ x ∈ l, ∀ g ∈ x.a, Q g.p ∧ AllQ Q r g.c
theorem allQ_true : ∀ (r : Nat) (l : List C), AllQ (fun _ => True) r l
  | 0, _ => trivial
  | r + 1, _ => fun _ _ g _ => ⟨trivial, allQ_true r g.c⟩
def allF : Nat → List C → Bool
  | 0, _ => true
  | r + 1, l => l.all fun x => x.a.all fun g => g.p.p.isEmpty && allF r g.c
theorem allF_ok : ∀ (r : Nat) (l : List C), allF r l = true → AllQ (fun p => p.p = []) r l
  | 0, _, _ => trivial
  | r + 1, l, h => fun x hx g hg => by
    simp only [allF, List.all_eq_true, Bool.and_eq_true] at h
    exact ⟨by simpa using (h x hx g hg).1, allF_ok r g.c (h x hx g hg).2⟩
def SameAt (Q : P → Prop) (r : Nat) : Prop := ∀ (w : World) (d : Nat) (A : Option Addr) (c : Nat) (l : List C) (A' : Option Addr) (c' : Nat) (m : List C) (lev : Int), lev = 12 - r → r ≤ 11 → AllQ Q r m → Ch w 0 w.heap.size d A c l → Ch w 0 w.heap.size d A' c' m →
  Calls Tryz.prog 30 #[.slice A l.length c, .slice A' m.length c', .int .i64 lev] w fun e w' => e = .returned (.bool (sameC r l m)) ∧ Below w.heap.size w w'
theorem boxes44 (w : World) (x y : Gt) (W : World) (hW : (w.alloc (.cells #[.int .i64 x.k, .int .i64 x.x.t.k, .int .i64 x.x.t.n, .string x.x.t.s, .slice x.x.A x.x.t.l.length x.x.c, .slice x.x.A' x.x.t.m.length x.x.c', .int .i64 x.q.t.k, .slice x.q.A x.q.t.v.length x.q.c, .slice x.q.A' x.q.t.p.length x.q.c', .slice x.A x.l.length x.c, .string x.s] 44)).alloc (.cells #[.int .i64 y.k, .int .i64 y.x.t.k, .int .i64 y.x.t.n, .string y.x.t.s, .slice y.x.A y.x.t.l.length y.x.c, .slice y.x.A' y.x.t.m.length y.x.c', .int .i64 y.q.t.k, .slice y.q.A y.q.t.v.length y.q.c, .slice y.q.A' y.q.t.p.length y.q.c', .slice y.A y.l.length y.c, .string y.s] 44) = W) : BG W w.heap.size x ∧ BG W (w.heap.size + 1) y ∧ Below w.heap.size w W := by
  subst hW
  have b := below_new (w.alloc (.cells #[.int .i64 x.k, .int .i64 x.x.t.k, .int .i64 x.x.t.n, .string x.x.t.s, .slice x.x.A x.x.t.l.length x.x.c, .slice x.x.A' x.x.t.m.length x.x.c', .int .i64 x.q.t.k, .slice x.q.A x.q.t.v.length x.q.c, .slice x.q.A' x.q.t.p.length x.q.c', .slice x.A x.l.length x.c, .string x.s] 44)) (.cells #[.int .i64 y.k, .int .i64 y.x.t.k, .int .i64 y.x.t.n, .string y.x.t.s, .slice y.x.A y.x.t.l.length y.x.c, .slice y.x.A' y.x.t.m.length y.x.c', .int .i64 y.q.t.k, .slice y.q.A y.q.t.v.length y.q.c, .slice y.q.A' y.q.t.p.length y.q.c', .slice y.A y.l.length y.c, .string y.s] 44)
  have c := BG.new (w.alloc (.cells #[.int .i64 x.k, .int .i64 x.x.t.k, .int .i64 x.x.t.n, .string x.x.t.s, .slice x.x.A x.x.t.l.length x.x.c, .slice x.x.A' x.x.t.m.length x.x.c', .int .i64 x.q.t.k, .slice x.q.A x.q.t.v.length x.q.c, .slice x.q.A' x.q.t.p.length x.q.c', .slice x.A x.l.length x.c, .string x.s] 44)) y
  rw [size_alloc] at c
  exact ⟨(BG.new w x).next b, c, below_new2 _ _ _⟩
theorem boxes36 (w : World) (x y : Ct) (W : World) (hW : (w.alloc (.cells #[.string x.n, .slice x.A x.l.length x.c] 36)).alloc (.cells #[.string y.n, .slice y.A y.l.length y.c] 36) = W) : BC W w.heap.size x ∧ BC W (w.heap.size + 1) y ∧ Below w.heap.size w W := by
  subst hW
  have b := below_new (w.alloc (.cells #[.string x.n, .slice x.A x.l.length x.c] 36)) (.cells #[.string y.n, .slice y.A y.l.length y.c] 36)
  have c := BC.new (w.alloc (.cells #[.string x.n, .slice x.A x.l.length x.c] 36)) y
  rw [size_alloc] at c
  exact ⟨(BC.new w x).next b, c, below_new2 _ _ _⟩
theorem Gt.two {x y : Gt} {w : World} {d : Nat} (hx : x.In w d) (hy : y.In w d) : ∃ n m, x.x.In w n ∧ y.x.In w n ∧ x.q.In w m ∧ y.q.In w m := by
  obtain ⟨n1, v1⟩ := hx.v
  obtain ⟨n2, v2⟩ := hy.v
  obtain ⟨m1, p1⟩ := hx.p
  obtain ⟨m2, p2⟩ := hy.p
  exact ⟨n1 + n2, m1 + m2, At.In.up (show x.x.In w n1 from v1) (by omega), At.In.up (show y.x.In w n2 from v2) (by omega), Pt.In.up (show x.q.In w m1 from p1) (by omega), Pt.In.up (show y.q.In w m2 from p2) (by omega)⟩
set_option maxHeartbeats 6400000 in
theorem closure_sameA (Q : P → Prop) (hQ : SPred Q) (r : Nat) (ih : SameAt Q r) (hr : r ≤ 10) (g : Nat) (w : World) (lev : Int) (hlev : lev = 11 - r) (hg : g < w.heap.size) (hc : w.cell? ⟨g, 0, none⟩ = some (.int .i64 lev)) (d : Nat) : EqsA 46 #[.pointer (some ⟨g, 0, none⟩)] w d (fun g => Q g.p ∧ AllQ Q r g.c) (sameA (sameC r)) := by
  intro W x y hq hb hx hy
  have HQ := Lib.hid hQ
  have HS1 := Lib.hid (show Q y.q.t from hq.1)
  have HS2 := Lib.hid (show AllQ Q r y.l from hq.2)
  clear hQ hq
  have hl0 : 0 ≤ lev := by omega
  have hl1 : lev ≤ 12 := by omega
  have l0 := cell_below hb hc hg
  have hgW : g < W.heap.size := Nat.lt_of_lt_of_le hg hb.size
  have HX := Lib.hid hx
  have HY := Lib.hid hy
  have hbx := hx.c.big
  have hby := hy.c.big
  have IH := Lib.hid ih
  have HLV := Lib.hid (show lev + 1 = 12 - r by omega)
  have FIN := Lib.hid (show sameA (sameC r) x.t y.t = (x.k == y.k && (x.s.toList == y.s.toList && (cmpV 12 x.x.t y.x.t == 0 && (sameP x.q.t y.q.t && sameC r x.l y.l)))) from rfl)
  show Calls Tryz.prog 46 #[x.val, y.val, .pointer (some ⟨g, 0, none⟩)] W fun e w' => e = .returned (.bool (sameA (sameC r) x.t y.t)) ∧ Below W.heap.size W w'
  obtain ⟨ans, hans⟩ : ∃ b, b = sameA (sameC r) x.t y.t := ⟨_, rfl⟩
  rw [← hans] at FIN ⊢
  clear hx hy ih hlev hc hb hans
  unfold Gt.val
  go_enter Tryz.func46, Tryz.ntmps46
  go_upto_region 1 with fail
  generalize hW : World.alloc (World.alloc _ _) _ = Y
  obtain ⟨k1, k2, hb⟩ := boxes44 _ _ _ _ hW
  have l1 := cell_below hb l0 hgW
  have hgY : g < Y.heap.size := Nat.lt_of_lt_of_le hgW hb.size
  have L1 := Lib.hid l1
  have X1 := Lib.hid k1
  have Y1 := Lib.hid k2
  have HB := Lib.hid hb
  obtain ⟨a0, a1, a2, a3, a4, a5, a6, a7, a8, a9, a10, _⟩ := k1
  obtain ⟨b0, b1, b2, b3, b4, b5, b6, b7, b8, b9, b10, _⟩ := k2
  clear hW hb l0 l1
  obtain ⟨n, m, v1, v2, p1, p2⟩ := Gt.two (HX.out.next HB.out) (HY.out.next HB.out)
  have V1 := Lib.hid v1
  have V2 := Lib.hid v2
  have P1 := Lib.hid p1
  have P2 := Lib.hid p2
  clear v1 v2 p1 p2
  cases h1 : (x.k == y.k)
  case false =>
    rw [h1] at FIN
    go_wp2_with fail
    go_ret
    exact ⟨by rw [FIN.out]; first | rfl | (simp only [h1]; rfl), HB.out⟩
  cases h2 : (x.s.toList == y.s.toList)
  case false =>
    rw [h1, h2] at FIN
    go_wp2_with fail
    go_ret
    exact ⟨by rw [FIN.out]; first | rfl | (simp only [h1, h2]; rfl), HB.out⟩
  rw [h1, h2] at FIN
  have CT := Lib.hid (same_at Y n n x.x y.x V1.out V2.out)
  generalize (cmpV 12 x.x.t y.x.t == 0) = c1 at *
  go_wp2_with fail
  refine CT.out.mono ?_
  rintro e w2 ⟨rfl, hb⟩
  have HB2 := Lib.hid (bnext HB.out hb)
  have X2 := Lib.hid (X1.out.next hb)
  have Y2 := Lib.hid (Y1.out.next hb)
  have D2 := Lib.hid hb
  clear hb CT a0 a1 a2 a3 a4 a5 a6 a7 a8 a9 a10 b0 b1 b2 b3 b4 b5 b6 b7 b8 b9 b10
  obtain ⟨a0, a1, a2, a3, a4, a5, a6, a7, a8, a9, a10, _⟩ := X2.out
  obtain ⟨b0, b1, b2, b3, b4, b5, b6, b7, b8, b9, b10, _⟩ := Y2.out
  cases c1
  case false =>
    go_wp2_with fail
    go_ret
    exact ⟨by rw [FIN.out]; rfl, HB2.out⟩
  have CT := Lib.hid (HQ.out w2 m x.q y.q HS1.out (P1.out.next D2.out) (P2.out.next D2.out))
  generalize sameP x.q.t y.q.t = c2 at *
  go_wp2_with fail
  refine CT.out.mono ?_
  rintro e w3 ⟨rfl, hb⟩
  have HB3 := Lib.hid (bnext HB2.out hb)
  have X3 := Lib.hid (X2.out.next hb)
  have Y3 := Lib.hid (Y2.out.next hb)
  have D3 := Lib.hid (bnext D2.out hb)
  clear hb CT a0 a1 a2 a3 a4 a5 a6 a7 a8 a9 a10 b0 b1 b2 b3 b4 b5 b6 b7 b8 b9 b10
  obtain ⟨a0, a1, a2, a3, a4, a5, a6, a7, a8, a9, a10, _⟩ := X3.out
  obtain ⟨b0, b1, b2, b3, b4, b5, b6, b7, b8, b9, b10, _⟩ := Y3.out
  cases c2
  case false =>
    go_wp2_with fail
    go_ret
    exact ⟨by rw [FIN.out]; rfl, HB3.out⟩
  have l3 := cell_below D3.out L1.out hgY
  have i1 : IntKind.i64.wrap (lev + 1) = lev + 1 := IntWalk.i64_in _ (by omega)
  have CT := Lib.hid (IH.out w3 d x.A x.c x.l y.A y.c y.l (lev + 1) HLV.out (by omega) HS2.out (HX.out.next HB3.out).c (HY.out.next HB3.out).c)
  generalize sameC r x.l y.l = c3 at *
  go_wp2_with fail
  refine CT.out.mono ?_
  rintro e w4 ⟨rfl, hb⟩
  have HB4 := Lib.hid (bnext HB3.out hb)
  clear hb CT
  go_wp2
  go_ret
  exact ⟨by rw [FIN.out]; rfl, HB4.out⟩
theorem entSameA : Enters 46 := fun _ _ => by kernel_rfl
theorem entSameC : Enters 49 := fun _ _ => by kernel_rfl
set_option maxHeartbeats 3200000 in
theorem closure_sameC (Q : P → Prop) (hQ : SPred Q) (r : Nat) (ih : SameAt Q r) (hr : r ≤ 10) (g fb : Nat) (w : World) (lev : Int) (hlev : lev = 11 - r) (hg : g < w.heap.size) (hc : w.cell? ⟨g, 0, none⟩ = some (.int .i64 lev)) (hf : fb < w.heap.size) (hfc : w.cell? ⟨fb, 0, none⟩ = some (.func (.func 46) #[] #[.pointer (some ⟨g, 0, none⟩)])) (d : Nat) : EqsC 49 #[.pointer (some ⟨fb, 0, none⟩)] w d (fun x => ∀ g ∈ x.a, Q g.p ∧ AllQ Q r g.c) (sameCl (sameC r)) := by
  intro W x y hq hb hx hy
  have HQ := Lib.hid hQ
  have HS := Lib.hid (show ∀ g ∈ y.l, Q g.p ∧ AllQ Q r g.c from hq)
  clear hQ hq
  have l0 := cell_below hb hc hg
  have f0 := cell_below hb hfc hf
  have hgW : g < W.heap.size := Nat.lt_of_lt_of_le hg hb.size
  have hfW : fb < W.heap.size := Nat.lt_of_lt_of_le hf hb.size
  have HX := Lib.hid hx
  have HY := Lib.hid hy
  have hbx := hx.a.big
  have hby := hy.a.big
  have IH := Lib.hid ih
  have HLV := Lib.hid hlev
  have FIN := Lib.hid (show sameCl (sameC r) x.t y.t = (x.n.toList == y.n.toList && eqL (sameA (sameC r)) x.l y.l) from rfl)
  show Calls Tryz.prog 49 #[x.val, y.val, .pointer (some ⟨fb, 0, none⟩)] W fun e w' => e = .returned (.bool (sameCl (sameC r) x.t y.t)) ∧ Below W.heap.size W w'
  obtain ⟨ans, hans⟩ : ∃ b, b = sameCl (sameC r) x.t y.t := ⟨_, rfl⟩
  rw [← hans] at FIN ⊢
  clear hx hy ih hlev hc hfc hb hans
  unfold Ct.val
  go_enter Tryz.func49, Tryz.ntmps49
  go_upto_region 1 with fail
  generalize hW : World.alloc (World.alloc _ _) _ = Y
  obtain ⟨k1, k2, hb⟩ := boxes36 _ _ _ _ hW
  have L1 := Lib.hid (cell_below hb l0 hgW)
  have f1 := cell_below hb f0 hfW
  have hgY : g < Y.heap.size := Nat.lt_of_lt_of_le hgW hb.size
  have HB := Lib.hid hb
  obtain ⟨a0, a1, _⟩ := k1
  obtain ⟨b0, b1, _⟩ := k2
  clear hW hb l0 f0
  cases h1 : (x.n.toList == y.n.toList)
  case false =>
    rw [h1] at FIN
    go_wp2_with fail
    go_ret
    exact ⟨by rw [FIN.out]; first | rfl | (simp only [h1]; rfl), HB.out⟩
  rw [h1] at FIN
  have CT := Lib.hid (equalAs 46 entSameA #[.pointer (some ⟨g, 0, none⟩)] (fun g => Q g.p ∧ AllQ Q r g.c) (sameA (sameC r)) Y d (closure_sameA Q HQ.out r IH.out hr g Y lev HLV.out hgY L1.out d) x.A x.c x.l y.A y.c y.l HS.out (HX.out.next HB.out).a (HY.out.next HB.out).a)
  generalize eqL (sameA (sameC r)) x.l y.l = c1 at *
  go_wp2_with fail
  refine CT.out.mono ?_
  rintro e w2 ⟨rfl, hb⟩
  have HB2 := Lib.hid (bnext HB.out hb)
  clear hb CT
  go_wp2
  go_ret
  exact ⟨by rw [FIN.out]; rfl, HB2.out⟩
set_option maxHeartbeats 800000 in
theorem sameAt_zero (Q : P → Prop) : SameAt Q 0 := by
  intro w d A c l A' c' m lev hlev _ _ _ _
  have hl : 11 < lev := by omega
  clear hlev
  go_enter Tryz.func30, Tryz.ntmps30
  go_wp2
  go_ret
  exact ⟨rfl, below_new _ _⟩
section
variable (P : Program) (w : World) (a : Addr) (m : Mode)
@[local go_sem]
theorem run_store_func (f : Fn) (rs cs : Array Value) : (store a (.func f rs cs) m).run P w = stored P w a (.func f rs cs) m := run_store P w a _ m rfl
end
set_option maxHeartbeats 3200000 in
theorem sameAt_succ (Q : P → Prop) (hQ : SPred Q) (r : Nat) (ih : SameAt Q r) : SameAt Q (r + 1) := by
  intro w d A c l A' c' m lev hlev hr hq hx hy
  have HQ := Lib.hid hQ
  have HS := Lib.hid (show ∀ x ∈ m, ∀ g ∈ x.a, Q g.p ∧ AllQ Q r g.c from hq)
  clear hQ hq
  have hl : ¬ 11 < lev := by omega
  have hl0 : 0 ≤ lev := by omega
  have HL := Lib.hid (show lev = 11 - r by omega)
  have HX := Lib.hid (hx.up (d' := d + 1) (by omega))
  have HY := Lib.hid (hy.up (d' := d + 1) (by omega))
  have hbx := hx.big
  have hby := hy.big
  have IH := Lib.hid ih
  have HR := Lib.hid (show r ≤ 10 by omega)
  show Calls Tryz.prog 30 #[.slice A l.length c, .slice A' m.length c', .int .i64 lev] w fun e w' => e = .returned (.bool (eqL (sameCl (sameC r)) l m)) ∧ Below w.heap.size w w'
  clear hx hy ih hlev hr
  go_enter Tryz.func30, Tryz.ntmps30
  go_upto_region 4 with fail
  generalize hW : World.alloc (World.alloc _ _) _ = W
  obtain ⟨l0, c1, z1, hb, hz, hbk⟩ : W.cell? ⟨w.heap.size, 0, none⟩ = some (.int .i64 lev) ∧ W.cell? ⟨w.heap.size + 1, 0, none⟩ = some .nilFunc ∧ W.frozen? ⟨w.heap.size + 1, 0, none⟩ = false ∧ Below w.heap.size w W ∧ W.heap.size = w.heap.size + 1 + 1 ∧ W.heap[w.heap.size + 1]? = some (.cells #[.nilFunc] 81 (0, 0)) := by
    subst hW
    have hh := heap_alloc_new (w.alloc (.cells #[.int .i64 lev] 3)) (.cells #[.nilFunc] 81)
    rw [size_alloc] at hh
    refine ⟨?_, ?_, ?_, below_new2 _ _ _, by simp, hh⟩
    · refine cell_below (below_new _ _) ?_ (by simp)
      rw [World.cell?_alloc_at _ _ _ _ rfl]; rfl
    · rw [World.cell?_alloc_at _ _ _ _ (by simp)]; rfl
    · unfold World.frozen?; rw [hh]; simp
  clear hW
  rw [run_store_func]
  unfold stored
  simp only [c1, z1]
  go_upto_region 4 with fail
  obtain ⟨V, hV⟩ : ∃ V, V = World.setCell W ⟨w.heap.size + 1, 0, none⟩ (.func (.func 46) #[] #[.pointer (some ⟨w.heap.size, 0, none⟩)]) := ⟨_, rfl⟩
  rw [← hV]
  obtain ⟨l0, f0, hb, hz⟩ : V.cell? ⟨w.heap.size, 0, none⟩ = some (.int .i64 lev) ∧ V.cell? ⟨w.heap.size + 1, 0, none⟩ = some (.func (.func 46) #[] #[.pointer (some ⟨w.heap.size, 0, none⟩)]) ∧ Below w.heap.size w V ∧ V.heap.size = w.heap.size + 1 + 1 := by
    subst hV
    refine ⟨?_, ?_, hb.setCell (p := ⟨w.heap.size + 1, 0, none⟩) (by show w.heap.size ≤ w.heap.size + 1; omega) _, by simpa [World.setCell] using hz⟩
    · exact (World.cell?_of_block (w := W) (a := ⟨w.heap.size, 0, none⟩) (Below.heap_setCell W ⟨w.heap.size + 1, 0, none⟩ _ _ (by simp))).trans l0
    · simp [World.setCell, World.cell?, Array.getElem?_modify, hbk]
  clear hV c1 z1 hbk
  have HB := Lib.hid hb
  have CT := Lib.hid (equalCs 49 entSameC #[.pointer (some ⟨w.heap.size + 1, 0, none⟩)] (fun x => ∀ g ∈ x.a, Q g.p ∧ AllQ Q r g.c) (sameCl (sameC r)) V d (closure_sameC Q HQ.out r IH.out HR.out w.heap.size (w.heap.size + 1) V lev HL.out (by omega) l0 (by omega) f0 d) A c l A' c' m HS.out (HX.out.next hb) (HY.out.next hb))
  generalize hE : eqL (sameCl (sameC r)) l m = b1 at CT
  have HE := Lib.hid hE
  clear hb hz l0 f0 hE
  go_wp2_with fail
  refine CT.out.mono ?_
  rintro e w2 ⟨rfl, hb⟩
  have HB2 := Lib.hid (bnext HB.out hb)
  clear hb CT
  go_wp2
  go_ret
  exact ⟨by rw [HE.out]; rfl, HB2.out⟩
theorem sameAt_any (Q : P → Prop) (hQ : SPred Q) : ∀ r, SameAt Q r
  | 0 => sameAt_zero Q
  | r + 1 => sameAt_succ Q hQ r (sameAt_any Q hQ r)
set_option maxHeartbeats 800000 in
theorem tsame_anyQ (Q : P → Prop) (hQ : SPred Q) (w : World) (d : Nat) (A : Option Addr) (c : Nat) (l : List C) (A' : Option Addr) (c' : Nat) (m : List C) (hm : AllQ Q 11 m) (hx : Ch w 0 w.heap.size d A c l) (hy : Ch w 0 w.heap.size d A' c' m) :
    Calls Tryz.prog 17 #[.slice A l.length c, .slice A' m.length c'] w fun e w' => e = .returned (.bool (sameC 11 l m)) ∧ Below w.heap.size w w' := by
  have CT := Lib.hid (sameAt_any Q hQ 11 w d A c l A' c' m 1 (by omega) (by omega) hm hx hy)
  generalize sameC 11 l m = b at *
  clear hx hy hm
  go_enter Tryz.func17, Tryz.ntmps17
  go_wp2_with fail
  refine CT.out.mono ?_
  rintro e w2 ⟨rfl, hb⟩
  have HB := Lib.hid hb
  clear hb CT
  go_wp2
  go_ret
  exact ⟨rfl, HB.out⟩
end Go.Proofs.YtiiopbcihieblaaGreatDoor

