/- PredNegates. -/
import Derived.Test.YtiiccefnfepccaaQD
import Derived.Test.YtiiccefnfepccaaPU
namespace Go.Proofs.Ytiiccefnfepccaa
set_option maxRecDepth 100000
open Go.RowKit Go.Sort

/-- Rows that may be written over: their blocks are known whole, from lo on, below hi. -/
def MyV (w : World) (lo hi : Nat) (A : Option Addr) (n : Nat) : Prop := 0 < n → ∃ g, A = some ⟨g, 0, none⟩ ∧ lo ≤ g ∧ g < hi ∧ Blk w g n
def MyP (w : World) (lo hi : Nat) (A : Option Addr) (n : Nat) : Prop := 0 < n → ∃ g, A = some ⟨g, 0, none⟩ ∧ lo ≤ g ∧ g < hi ∧ BlkP w g n
theorem MyP.of {w : World} {lo hi d : Nat} {A : Option Addr} {c : Nat} {l : List P} (h : MineP w A l.length) (r : Pw w lo hi d A c l) : MyP w lo hi A l.length := fun h0 => by
  obtain ⟨g, rfl, hb⟩ := h h0
  obtain ⟨b, o, e, h1, h2, _⟩ := r.at_ h0
  injection e with e
  injection e with e1
  subst e1
  exact ⟨g, rfl, h1, h2, hb⟩
theorem MyV.of {w : World} {lo hi d : Nat} {A : Option Addr} {c : Nat} {l : List V} (h : Mine w A l.length) (r : Rw w lo hi d A c l) : MyV w lo hi A l.length := fun h0 => by
  obtain ⟨g, rfl, hb⟩ := h h0
  obtain ⟨b, o, e, h1, h2, _⟩ := r.at_ h0
  injection e with e
  injection e with e1
  subst e1
  exact ⟨g, rfl, h1, h2, hb⟩
theorem MyP.kept {w w' : World} {lo hi : Nat} {A : Option Addr} {n : Nat} (h : MyP w lo hi A n) (hk : Kept lo hi w w') : MyP w' lo hi A n := fun h0 => by
  obtain ⟨g, e, h1, h2, hb⟩ := h h0
  exact ⟨g, e, h1, h2, hb.kept (hk g h1 h2)⟩
theorem MyV.kept {w w' : World} {lo hi : Nat} {A : Option Addr} {n : Nat} (h : MyV w lo hi A n) (hk : Kept lo hi w w') : MyV w' lo hi A n := fun h0 => by
  obtain ⟨g, e, h1, h2, hb⟩ := h h0
  exact ⟨g, e, h1, h2, hb.kept (hk g h1 h2)⟩
theorem MyP.set {w : World} {lo hi : Nat} {A : Option Addr} {n : Nat} (h : MyP w lo hi A n) (g o : Nat) (u : Value) : MyP (w.setCell ⟨g, o, none⟩ u) lo hi A n := fun h0 => by
  obtain ⟨g, e, h1, h2, hb⟩ := h h0
  exact ⟨g, e, h1, h2, hb.set _ _ rfl⟩
theorem MyV.set {w : World} {lo hi : Nat} {A : Option Addr} {n : Nat} (h : MyV w lo hi A n) (g o : Nat) (u : Value) : MyV (w.setCell ⟨g, o, none⟩ u) lo hi A n := fun h0 => by
  obtain ⟨g, e, h1, h2, hb⟩ := h h0
  exact ⟨g, e, h1, h2, hb.set _ _ rfl⟩
/-- Written only within two intervals. -/
structure Only (l1 h1 l2 h2 : Nat) (w w' : World) : Prop where
  size : w'.heap.size = w.heap.size
  same : ∀ k, ¬(l1 ≤ k ∧ k < h1) → ¬(l2 ≤ k ∧ k < h2) → w'.heap[k]? = w.heap[k]?
theorem Only.refl (l1 h1 l2 h2 : Nat) (w : World) : Only l1 h1 l2 h2 w w := ⟨rfl, fun _ _ _ => rfl⟩
theorem Only.set {l1 h1 l2 h2 : Nat} {w w' : World} (h : Only l1 h1 l2 h2 w w') (g o : Nat) (u : Value) (hg : (l1 ≤ g ∧ g < h1) ∨ (l2 ≤ g ∧ g < h2)) : Only l1 h1 l2 h2 w (w'.setCell ⟨g, o, none⟩ u) :=
  ⟨by simp [World.setCell, h.size], fun k k1 k2 => (Below.heap_setCell _ _ _ k (by show k ≠ g; rintro rfl; rcases hg with q | q; exact k1 q; exact k2 q)).trans (h.same k k1 k2)⟩

/-- What the law's writing keeps. -/
structure WI (w wc : World) (l1 h1 l2 h2 : Nat) (A B C : Option Addr) (n m q : Nat) (wr : World) : Prop where
  only : Only l1 h1 l2 h2 wc wr
  bel : Below w.heap.size w wr
  mv : MyV wr l1 h1 A n
  mp : MyP wr l1 h1 B m
  mc : MyP wr l2 h2 C q
theorem WI.set {w wc : World} {l1 h1 l2 h2 : Nat} {A B C : Option Addr} {n m q : Nat} {wr : World} (h : WI w wc l1 h1 l2 h2 A B C n m q wr) (hw : w.heap.size ≤ l1 ∧ w.heap.size ≤ l2) (g o : Nat) (u : Value) (hg : (l1 ≤ g ∧ g < h1) ∨ (l2 ≤ g ∧ g < h2)) :
    WI w wc l1 h1 l2 h2 A B C n m q (wr.setCell ⟨g, o, none⟩ u) :=
  ⟨h.only.set g o u hg, h.bel.setCell (by show w.heap.size ≤ g; omega) _, h.mv.set _ _ _, h.mp.set _ _ _, h.mc.set _ _ _⟩
/-- A predicate put in a box of its own. -/
theorem boxed (w : World) (v0 v1 v2 : Value) (W : World) (hW : w.alloc (.cells #[v0, v1, v2] 25) = W) : CellP W w.heap.size v0 v1 v2 ∧ W.heap.size = w.heap.size + 1 ∧ Below w.heap.size w W := by
  subst hW
  exact ⟨CellP.new w v0 v1 v2, by simp, below_new _ _⟩
theorem Only.cellP {l1 h1 l2 h2 : Nat} {w w' : World} (h : Only l1 h1 l2 h2 w w') {g : Nat} {v0 v1 v2 : Value} (c : CellP w g v0 v1 v2) (k1 : ¬(l1 ≤ g ∧ g < h1)) (k2 : ¬(l2 ≤ g ∧ g < h2)) : CellP w' g v0 v1 v2 := c.kept (h.same g k1 k2)

def n6tD : Nat → Tmp := fun j => [18, 19, 20, 21, 22, 23, 24, 25, 26, 27, 28, 29, 30, 31, 32, 33].getD j 0
def n6tE : Nat → List Nat := fun j => [[], [], [1], [0, 2], [3], [4], [5], [5, 6], [5, 7], [5, 8], [9], [9], [9, 10, 11], [9, 12], [5, 9, 13], [5, 14]].getD j []
def n6fD : Nat → Tmp := fun j => [18, 19, 20, 21, 22, 23, 24, 25, 26, 27, 28, 29, 30, 31, 32, 33].getD j 0
def n6fE : Nat → List Nat := fun j => [[], [], [1], [0, 2], [3], [4], [5], [5, 6], [5, 7], [5, 8], [9], [9], [9, 10, 11], [9, 12], [5, 9, 13], [5, 14]].getD j []
def n20D : Nat → Tmp := fun j => [70, 71, 72, 73, 74, 75, 76, 77, 78, 79, 80, 81, 82, 2].getD j 0
def n20E : Nat → List Nat := fun j => [[], [], [1], [0, 2], [3], [4], [4, 5], [4], [4, 6, 7], [4, 8], [9], [10], [10, 11], [12]].getD j []
set_option maxHeartbeats 25600000 in
theorem negates_law (w : World) (d : Nat) (x : Pt) (hx : x.In w d) : Calls Try.prog 4 #[x.val] w fun e w' => e = .returned (.bool true) ∧ Below w.heap.size w w' := by
  have HX := Lib.hid hx
  clear hx
  unfold Pt.val
  go_enter Try.func4, Try.ntmps4
  go_upto_region 1 with fail
  have k1 := BP.new w x
  have hb := below_new w (.cells #[.int .i64 x.t.k, .slice x.A x.t.v.length x.c, .slice x.A' x.t.p.length x.c'] 25)
  have hzz := size_alloc w (.cells #[.int .i64 x.t.k, .slice x.A x.t.v.length x.c, .slice x.A' x.t.p.length x.c'] 25)
  generalize hY : World.alloc w _ = Y at k1 hb hzz ⊢
  have K1 := Lib.hid k1
  have HB := Lib.hid hb
  obtain ⟨a0, a1, a2, _⟩ := k1
  clear hb hY
  have hzY : w.heap.size < Y.heap.size := by omega
  clear hzz
  go_wp2_with fail
  refine (much_any Y d 0 x (HX.out.next HB.out) none 0 [] (rw_nil _ _ _ _)).mono ?_
  rintro e w1 ⟨b, rfl, hb1⟩
  have B1 := Lib.hid (bnext HB.out hb1)
  have K2 := Lib.hid (K1.out.next hb1)
  have hz1 : w.heap.size < w1.heap.size := Nat.lt_of_lt_of_le hzY hb1.size
  clear hb1 a0 a1 a2 K1 hzY
  cases b
  case true =>
    go_wp2_with fail
    refine (known_any w1).mono ?_
    rintro e wk ⟨rfl, hbk⟩
    have BK := Lib.hid (bnext B1.out hbk)
    clear hbk
    go_wp2
    go_ret
    exact ⟨rfl, BK.out⟩
  obtain ⟨a0, a1, a2, _⟩ := K2.out
  go_wp2_with fail
  refine (negate_any w1 d x (HX.out.next B1.out)).mono ?_
  rintro e w2 ⟨A1, c1, A1', c1', rfl, rd1, m1, m1', hb2⟩
  have R1 := Lib.hid rd1
  have MV := Lib.hid (MyV.of m1 rd1.2.1.choose_spec)
  have MP := Lib.hid (MyP.of m1' rd1.2.2)
  have B2 := Lib.hid hb2
  have K3 := Lib.hid (K2.out.next hb2)
  clear rd1 m1 m1' a0 a1 a2
  obtain ⟨a0, a1, a2, _⟩ := K3.out
  go_wp2_with fail
  generalize hW2 : World.alloc w2 _ = W2
  obtain ⟨ca, z2, bW2⟩ := boxed _ _ _ _ _ hW2
  clear hW2 a0 a1 a2
  have HZ2 := Lib.hid z2
  have BW2 := Lib.hid (B1.out.trans ((hb2.trans (bW2.mono hb2.size)).mono B1.out.size))
  have KP2 := Lib.hid (K3.out.next bW2)
  have CA2 := Lib.hid ca
  have RA2 := Lib.hid (show Pt.In ⟨ngP x.t, A1, c1, A1', c1'⟩ W2 26 from (R1.out.more (Nat.zero_le _) (Nat.le_refl _) (Nat.le_refl _)).next bW2)
  have MV2 := Lib.hid (MV.out.kept (Kept.of_below bW2 (Nat.le_refl _)))
  have MP2 := Lib.hid (MP.out.kept (Kept.of_below bW2 (Nat.le_refl _)))
  have hs12 := hb2.size
  clear ca z2 bW2 hb2 MV MP K3 B2
  refine (negate_any W2 d x (HX.out.next BW2.out)).mono ?_
  rintro e w3 ⟨A2, c2, A2', c2', rfl, rd2, _, _, hb3⟩
  obtain ⟨a0, a1, a2, _⟩ := KP2.out.next hb3
  have hs23 := hb3.size
  have HB3 := Lib.hid hb3
  have R2 := Lib.hid rd2
  clear hb3 rd2
  go_wp2_with fail
  generalize hW3 : World.alloc w3 _ = W3
  obtain ⟨cb, z3, bW3⟩ := boxed _ _ _ _ _ hW3
  clear hW3 a0 a1 a2
  have HZ3 := Lib.hid z3
  have T3 := Lib.hid (show Below W2.heap.size W2 W3 from bnext HB3.out bW3)
  have BW3 := Lib.hid (bnext BW2.out T3.out)
  have KP3 := Lib.hid (KP2.out.next T3.out)
  have CB3 := Lib.hid cb
  have R3 := Lib.hid (R2.out.keep (Kept.of_below bW3 (Nat.le_refl _)))
  clear cb z3 bW3 R2
  refine (copyP_any W3 d x (HX.out.next BW3.out)).mono ?_
  rintro e w4 ⟨A3, c3, A3', c3', rfl, rd3, _, m3, hb4⟩
  obtain ⟨a0, a1, a2, _⟩ := KP3.out.next hb4
  have hs34 := hb4.size
  have HB4 := Lib.hid hb4
  have MC := Lib.hid (MyP.of m3 rd3.2.2)
  have R4 := Lib.hid rd3
  clear hb4 rd3 m3
  go_wp2_with fail
  generalize hW4 : World.alloc w4 _ = W4
  obtain ⟨cc, z4, bW4⟩ := boxed _ _ _ _ _ hW4
  clear hW4 a0 a1 a2
  have HZ4 := Lib.hid z4
  have T4 := Lib.hid (show Below W3.heap.size W3 W4 from bnext HB4.out bW4)
  have T24 := Lib.hid (bnext T3.out T4.out)
  have BW4 := Lib.hid (bnext BW3.out T4.out)
  have KP4 := Lib.hid (KP3.out.next T4.out)
  have CB4 := Lib.hid (CB3.out.next T4.out)
  have CA4 := Lib.hid (CA2.out.next T24.out)
  have CC4 := Lib.hid cc
  have RA4 := Lib.hid (RA2.out.next T24.out)
  have RB4 := Lib.hid (R3.out.keep (Kept.of_below T4.out (by have := HZ3.out; omega)))
  have RC4 := Lib.hid (show Pt.In ⟨copyP 12 x.t, A3, c3, A3', c3'⟩ W4 13 from (R4.out.more (Nat.zero_le _) (Nat.le_refl _) (Nat.le_refl _)).next bW4)
  have MV4 := Lib.hid (MV2.out.kept (Kept.of_below T24.out (by have := HZ2.out; omega)))
  have MP4 := Lib.hid (MP2.out.kept (Kept.of_below T24.out (by have := HZ2.out; omega)))
  have MC4 := Lib.hid (MC.out.kept (Kept.of_below bW4 (Nat.le_refl _)))
  clear cc z4 bW4 MV2 MP2 MC R3 R4 RA2 CA2 CB3 KP2 KP3 T3 T4 T24 HB3 HB4 K2
  obtain ⟨a, ha⟩ : ∃ a : Pt, a = ⟨ngP x.t, A1, c1, A1', c1'⟩ := ⟨_, rfl⟩
  obtain ⟨b, hb⟩ : ∃ b : Pt, b = ⟨ngP x.t, A2, c2, A2', c2'⟩ := ⟨_, rfl⟩
  obtain ⟨c, hc⟩ : ∃ c : Pt, c = ⟨copyP 12 x.t, A3, c3, A3', c3'⟩ := ⟨_, rfl⟩
  have TA := Lib.hid (show a.t = ngP x.t by rw [ha])
  have TB := Lib.hid (show b.t = ngP x.t by rw [hb])
  have TC := Lib.hid (show c.t = copyP 12 x.t by rw [hc])
  have K6 := Lib.hid (show PS W4 (d + 26) [(w2.heap.size, a), (w4.heap.size, c), (w.heap.size, x)] [] W4 from ⟨fun q hq => by
    simp only [List.mem_cons, List.not_mem_nil, or_false] at hq
    rcases hq with rfl | rfl | rfl
    · subst ha
      exact ⟨⟨CA4.out.c0, CA4.out.c1, CA4.out.c2, CA4.out.blk.lt⟩, RA4.out.up (by omega)⟩
    · subst hc
      exact ⟨⟨CC4.out.c0, CC4.out.c1, CC4.out.c2, CC4.out.blk.lt⟩, RC4.out.up (by omega)⟩
    · exact ⟨KP4.out, (HX.out.next BW4.out).up (by omega)⟩, (by intro _ h; cases h), Below.refl _ _⟩)
  have HB := Lib.hid hb
  clear ha hb hc
  have Z := Lib.hid (show (w.heap.size ≤ w1.heap.size ∧ w.heap.size ≤ W3.heap.size) ∧ w.heap.size < w1.heap.size ∧ w1.heap.size ≤ w2.heap.size ∧ W2.heap.size = w2.heap.size + 1 ∧ W2.heap.size ≤ w3.heap.size ∧ W3.heap.size = w3.heap.size + 1 ∧ W3.heap.size ≤ w4.heap.size ∧ W4.heap.size = w4.heap.size + 1 by have := HZ2.out; have := HZ3.out; have := HZ4.out; omega)
  go_cut [33] from 9 (fun s33 wx => s33 = .bool false ∧ PS W4 (d + 26) [(w2.heap.size, a), (w4.heap.size, c), (w.heap.size, x)] [] wx)
  case first =>
    cases hok : okP 12 x.t
    · skip
      refine region_phase_all [0, 1, 2, 3, 4, 5, 6, 7, 8, 9, 10, 11, 12, 13, 14, 15] n6fD n6fE (fun w' => PS W4 (d + 26) [(w2.heap.size, a), (w4.heap.size, c), (w.heap.size, x)] [] w') (saidOf [Is (a.val), Is (x.val), IsPt (d + 39) (ngP x.t), Is (.bool true), Is (.bool (false)), Is (.bool (false)), Is (x.val), Is (.int .i64 (errI false)), Is (.bool (false)), Is (.bool (false)), Is undef, Is undef, Is undef, Is undef, Is (.bool (false)), Is (.bool (false))]) 83 (by rfl) (by kernel_rfl) (by kernel_rfl) (by kernel_rfl) (fun _ _ h hb => h.next hb) (stays_said _ (stays_cons (Is.stays _) (stays_cons (Is.stays _) (stays_cons (IsPt.stays _ _) (stays_cons (Is.stays _) (stays_cons (Is.stays _) (stays_cons (Is.stays _) (stays_cons (Is.stays _) (stays_cons (Is.stays _) (stays_cons (Is.stays _) (stays_cons (Is.stays _) (stays_cons (Is.stays _) (stays_cons (Is.stays _) (stays_cons (Is.stays _) (stays_cons (Is.stays _) (stays_cons (Is.stays _) (stays_cons (Is.stays _) stays_nil))))))))))))))))) (K6.out.next (below_drewN _ _ 1)) (by kernel_rfl) ?_ ?_
      · skip
        refine owes_cons (Owes.mk (o := ({ dst := some 18, op := .load 25 (.tmp 3), type := 25, pos := "law.go:47", after := #[], guard := none } : Oper)) rfl (fun v wk hj hD K hK => ?_)) ?_
        · simp only [n6fD, n6fE, putAll, Act.put, List.getD_cons_zero, List.setIfInBounds_toArray, List.set_cons_zero, List.set_cons_succ] at hK ⊢
          obtain ⟨⟨a0, a1, a2, _⟩, _⟩ := hj.p (w2.heap.size, a) (by simp)
          go_simp
          exact hK.out _ _ (Below.refl _ _) rfl
        refine owes_cons (Owes.mk (o := ({ dst := some 19, op := .load 25 (.tmp 1), type := 25, pos := "law.go:47", after := #[], guard := none } : Oper)) rfl (fun v wk hj hD K hK => ?_)) ?_
        · simp only [n6fD, n6fE, putAll, Act.put, List.getD_cons_succ, List.getD_cons_zero, List.setIfInBounds_toArray, List.set_cons_zero, List.set_cons_succ] at hK ⊢
          obtain ⟨⟨a0, a1, a2, _⟩, _⟩ := hj.p (w.heap.size, x) (by simp)
          go_simp
          exact hK.out _ _ (Below.refl _ _) rfl
        refine owes_cons (Owes.mk (o := ({ dst := some 20, op := .call { callee := .value (.func 19), args := #[.tmp 19], argTypes := #[25] }, type := 25, pos := "law.go:47", after := #[{ on := 1, ground := .data }], guard := none } : Oper)) rfl (fun v wk hj hD K hK => ?_)) ?_
        · have h1 : v 1 = (x.val) := hD 1 (by decide)
          simp only [n6fD, n6fE, putAll, Act.put, List.getD_cons_succ, List.getD_cons_zero, List.setIfInBounds_toArray, List.set_cons_zero, List.set_cons_succ, h1] at hK ⊢
          go_simp
          refine (refNegate_any wk (d + 26) x (hj.p (w.heap.size, x) (by simp)).2).mono ?_
          intro e w2 hn
          obtain ⟨q, rfl, tq, iq, hb⟩ := hn
          exact hK.out _ _ hb ⟨q, rfl, tq, iq.up (by omega)⟩
        refine owes_cons (Owes.mk (o := ({ dst := some 21, op := .call { callee := .value (.func 18), args := #[.tmp 18, .tmp 20], argTypes := #[25, 25] }, type := 4, pos := "law.go:47", after := #[{ on := 0, ground := .data }, { on := 2, ground := .data }, { on := 2, ground := .chain }], guard := none } : Oper)) rfl (fun v wk hj hD K hK => ?_)) ?_
        · have h0 : v 0 = (a.val) := hD 0 (by decide)
          obtain ⟨q2, h2, t2, r2⟩ : IsPt (d + 39) (ngP x.t) (v 2) wk := hD 2 (by decide)
          simp only [n6fD, n6fE, putAll, Act.put, List.getD_cons_succ, List.getD_cons_zero, List.setIfInBounds_toArray, List.set_cons_zero, List.set_cons_succ, h0, h2] at hK ⊢
          go_simp
          refine (sameP_any (d + 26) wk (d + 39) a q2 (TA.out.trans t2.symm) (hj.p (w2.heap.size, a) (by simp)).2 r2).mono ?_
          rintro e w2 ⟨rfl, hb⟩
          exact hK.out _ _ hb rfl
        refine owes_cons (Owes.mk (o := ({ dst := some 22, op := .unOp Go.UnOp.not 4 (.tmp 21), type := 4, pos := "law.go:47", after := #[{ on := 3, ground := .data }], guard := none } : Oper)) rfl (fun v wk hj hD K hK => ?_)) ?_
        · have h3 : v 3 = (.bool true) := hD 3 (by decide)
          simp only [n6fD, n6fE, putAll, Act.put, List.getD_cons_succ, List.getD_cons_zero, List.setIfInBounds_toArray, List.set_cons_zero, List.set_cons_succ, h3] at hK ⊢
          go_simp
          exact hK.out _ _ (Below.refl _ _) rfl
        refine owes_cons (Owes.mk (o := ({ dst := some 23, op := .move (.tmp 22), type := 4, pos := "law.go:47", after := #[{ on := 4, ground := .data }, { on := 3, ground := .chain }], guard := none } : Oper)) rfl (fun v wk hj hD K hK => ?_)) ?_
        · have h4 : v 4 = (.bool (false)) := hD 4 (by decide)
          simp only [n6fD, n6fE, putAll, Act.put, List.getD_cons_succ, List.getD_cons_zero, List.setIfInBounds_toArray, List.set_cons_zero, List.set_cons_succ, h4] at hK ⊢
          go_simp
          exact hK.out _ _ (Below.refl _ _) rfl
        refine owes_cons (Owes.mk (o := ({ dst := some 24, op := .load 25 (.tmp 1), type := 25, pos := "law.go:47", after := #[{ on := 5, ground := .guard }], guard := some (5, false) } : Oper)) rfl (fun v wk hj hD K hK => ?_)) ?_
        · have h5 : v 5 = (.bool (false)) := hD 5 (by decide)
          simp only [n6fD, n6fE, putAll, Act.put, List.getD_cons_succ, List.getD_cons_zero, List.setIfInBounds_toArray, List.set_cons_zero, List.set_cons_succ, h5] at hK ⊢
          obtain ⟨⟨a0, a1, a2, _⟩, _⟩ := hj.p (w.heap.size, x) (by simp)
          go_simp
          exact hK.out _ _ (Below.refl _ _) rfl
        refine owes_cons (Owes.mk (o := ({ dst := some 25, op := .call { callee := .value (.func 13), args := #[.tmp 24], argTypes := #[25] }, type := 3, pos := "law.go:47", after := #[{ on := 6, ground := .data }, { on := 5, ground := .chain }, { on := 5, ground := .guard }], guard := some (5, false) } : Oper)) rfl (fun v wk hj hD K hK => ?_)) ?_
        · have h5 : v 5 = (.bool (false)) := hD 5 (by decide)
          have h6 : v 6 = (x.val) := hD 6 (by decide)
          simp only [n6fD, n6fE, putAll, Act.put, List.getD_cons_succ, List.getD_cons_zero, List.setIfInBounds_toArray, List.set_cons_zero, List.set_cons_succ, h5, h6] at hK ⊢
          go_simp
          refine (refPCheck wk (d + 26) x (hj.p (w.heap.size, x) (by simp)).2).mono ?_
          rintro e w2 ⟨rfl, hb⟩
          exact hK.out _ _ hb (by rw [hok]; rfl)
        refine owes_cons (Owes.mk (o := ({ dst := some 26, op := .binOp .eql 3 (.tmp 25) (.const (.int .i64 0)) 3, type := 4, pos := "law.go:47", after := #[{ on := 7, ground := .data }, { on := 5, ground := .guard }], guard := some (5, false) } : Oper)) rfl (fun v wk hj hD K hK => ?_)) ?_
        · have h5 : v 5 = (.bool (false)) := hD 5 (by decide)
          have h7 : v 7 = (.int .i64 (errI false)) := hD 7 (by decide)
          simp only [n6fD, n6fE, putAll, Act.put, List.getD_cons_succ, List.getD_cons_zero, List.setIfInBounds_toArray, List.set_cons_zero, List.set_cons_succ, h5, h7] at hK ⊢
          go_simp
          exact hK.out _ _ (Below.refl _ _) rfl
        refine owes_cons (Owes.mk (o := ({ dst := some 27, op := .move (.tmp 26), type := 4, pos := "law.go:47", after := #[{ on := 8, ground := .data }, { on := 7, ground := .chain }, { on := 5, ground := .guard }], guard := some (5, false) } : Oper)) rfl (fun v wk hj hD K hK => ?_)) ?_
        · have h5 : v 5 = (.bool (false)) := hD 5 (by decide)
          have h8 : v 8 = (.bool (false)) := hD 8 (by decide)
          simp only [n6fD, n6fE, putAll, Act.put, List.getD_cons_succ, List.getD_cons_zero, List.setIfInBounds_toArray, List.set_cons_zero, List.set_cons_succ, h5, h8] at hK ⊢
          go_simp
          exact hK.out _ _ (Below.refl _ _) rfl
        refine owes_cons (Owes.mk (o := ({ dst := some 28, op := .load 25 (.tmp 5), type := 25, pos := "law.go:47", after := #[{ on := 9, ground := .guard }], guard := some (9, true) } : Oper)) rfl (fun v wk hj hD K hK => ?_)) ?_
        · have h9 : v 9 = (.bool (false)) := hD 9 (by decide)
          simp only [n6fD, n6fE, putAll, Act.put, List.getD_cons_succ, List.getD_cons_zero, List.setIfInBounds_toArray, List.set_cons_zero, List.set_cons_succ, h9] at hK ⊢
          go_simp
          exact hK.out _ _ (Below.refl _ _) rfl
        refine owes_cons (Owes.mk (o := ({ dst := some 29, op := .load 25 (.tmp 1), type := 25, pos := "law.go:47", after := #[{ on := 9, ground := .guard }], guard := some (9, true) } : Oper)) rfl (fun v wk hj hD K hK => ?_)) ?_
        · have h9 : v 9 = (.bool (false)) := hD 9 (by decide)
          simp only [n6fD, n6fE, putAll, Act.put, List.getD_cons_succ, List.getD_cons_zero, List.setIfInBounds_toArray, List.set_cons_zero, List.set_cons_succ, h9] at hK ⊢
          go_simp
          exact hK.out _ _ (Below.refl _ _) rfl
        refine owes_cons (Owes.mk (o := ({ dst := some 30, op := .call { callee := .value (.func 18), args := #[.tmp 28, .tmp 29], argTypes := #[25, 25] }, type := 4, pos := "law.go:47", after := #[{ on := 10, ground := .data }, { on := 11, ground := .data }, { on := 9, ground := .chain }, { on := 9, ground := .guard }], guard := some (9, true) } : Oper)) rfl (fun v wk hj hD K hK => ?_)) ?_
        · have h9 : v 9 = (.bool (false)) := hD 9 (by decide)
          have h10 : v 10 = undef := hD 10 (by decide)
          have h11 : v 11 = undef := hD 11 (by decide)
          simp only [n6fD, n6fE, putAll, Act.put, List.getD_cons_succ, List.getD_cons_zero, List.setIfInBounds_toArray, List.set_cons_zero, List.set_cons_succ, h9, h10, h11] at hK ⊢
          go_simp
          exact hK.out _ _ (Below.refl _ _) rfl
        refine owes_cons (Owes.mk (o := ({ dst := some 31, op := .unOp Go.UnOp.not 4 (.tmp 30), type := 4, pos := "law.go:47", after := #[{ on := 12, ground := .data }, { on := 9, ground := .guard }], guard := some (9, true) } : Oper)) rfl (fun v wk hj hD K hK => ?_)) ?_
        · have h9 : v 9 = (.bool (false)) := hD 9 (by decide)
          have h12 : v 12 = undef := hD 12 (by decide)
          simp only [n6fD, n6fE, putAll, Act.put, List.getD_cons_succ, List.getD_cons_zero, List.setIfInBounds_toArray, List.set_cons_zero, List.set_cons_succ, h9, h12] at hK ⊢
          go_simp
          exact hK.out _ _ (Below.refl _ _) rfl
        refine owes_cons (Owes.mk (o := ({ dst := some 32, op := .pick (.tmp 27) (.tmp 31) (.const (.bool false)), type := 4, pos := "law.go:47", after := #[{ on := 9, ground := .data }, { on := 13, ground := .data }, { on := 5, ground := .guard }], guard := some (5, false) } : Oper)) rfl (fun v wk hj hD K hK => ?_)) ?_
        · have h5 : v 5 = (.bool (false)) := hD 5 (by decide)
          have h9 : v 9 = (.bool (false)) := hD 9 (by decide)
          have h13 : v 13 = undef := hD 13 (by decide)
          simp only [n6fD, n6fE, putAll, Act.put, List.getD_cons_succ, List.getD_cons_zero, List.setIfInBounds_toArray, List.set_cons_zero, List.set_cons_succ, h5, h9, h13] at hK ⊢
          go_simp
          exact hK.out _ _ (Below.refl _ _) rfl
        refine owes_cons (Owes.mk (o := ({ dst := some 33, op := .pick (.tmp 23) (.const (.bool true)) (.tmp 32), type := 4, pos := "law.go:47", after := #[{ on := 5, ground := .data }, { on := 14, ground := .data }], guard := none } : Oper)) rfl (fun v wk hj hD K hK => ?_)) ?_
        · have h5 : v 5 = (.bool (false)) := hD 5 (by decide)
          have h14 : v 14 = (.bool (false)) := hD 14 (by decide)
          simp only [n6fD, n6fE, putAll, Act.put, List.getD_cons_succ, List.getD_cons_zero, List.setIfInBounds_toArray, List.set_cons_zero, List.set_cons_succ, h5, h14] at hK ⊢
          go_simp
          exact hK.out _ _ (Below.refl _ _) rfl
        exact owes_nil
      · intro v wf hj hr
        have hl : v 15 = .bool false := hr 15 (by decide)
        simp only [n6fD, putAll, Act.put, List.getD_cons_succ, List.getD_cons_zero, List.setIfInBounds_toArray, List.set_cons_zero, List.set_cons_succ, hl]
        clear hl hr
        have HJ := Lib.hid hj
        clear hj
        go_wp2_with fail
        go_meet
        exact ⟨rfl, HJ.out⟩
    · skip
      refine region_phase_all [0, 1, 2, 3, 4, 5, 6, 7, 8, 9, 10, 11, 12, 13, 14, 15] n6tD n6tE (fun w' => PS W4 (d + 26) [(w2.heap.size, a), (w4.heap.size, c), (w.heap.size, x)] [] w') (saidOf [Is (a.val), Is (x.val), IsPt (d + 39) (ngP x.t), Is (.bool true), Is (.bool (false)), Is (.bool (false)), Is (x.val), Is (.int .i64 (errI true)), Is (.bool (true)), Is (.bool (true)), Is (c.val), Is (x.val), Is (.bool true), Is (.bool (false)), Is (.bool (false)), Is (.bool (false))]) 83 (by rfl) (by kernel_rfl) (by kernel_rfl) (by kernel_rfl) (fun _ _ h hb => h.next hb) (stays_said _ (stays_cons (Is.stays _) (stays_cons (Is.stays _) (stays_cons (IsPt.stays _ _) (stays_cons (Is.stays _) (stays_cons (Is.stays _) (stays_cons (Is.stays _) (stays_cons (Is.stays _) (stays_cons (Is.stays _) (stays_cons (Is.stays _) (stays_cons (Is.stays _) (stays_cons (Is.stays _) (stays_cons (Is.stays _) (stays_cons (Is.stays _) (stays_cons (Is.stays _) (stays_cons (Is.stays _) (stays_cons (Is.stays _) stays_nil))))))))))))))))) (K6.out.next (below_drewN _ _ 1)) (by kernel_rfl) ?_ ?_
      · skip
        refine owes_cons (Owes.mk (o := ({ dst := some 18, op := .load 25 (.tmp 3), type := 25, pos := "law.go:47", after := #[], guard := none } : Oper)) rfl (fun v wk hj hD K hK => ?_)) ?_
        · simp only [n6tD, n6tE, putAll, Act.put, List.getD_cons_zero, List.setIfInBounds_toArray, List.set_cons_zero, List.set_cons_succ] at hK ⊢
          obtain ⟨⟨a0, a1, a2, _⟩, _⟩ := hj.p (w2.heap.size, a) (by simp)
          go_simp
          exact hK.out _ _ (Below.refl _ _) rfl
        refine owes_cons (Owes.mk (o := ({ dst := some 19, op := .load 25 (.tmp 1), type := 25, pos := "law.go:47", after := #[], guard := none } : Oper)) rfl (fun v wk hj hD K hK => ?_)) ?_
        · simp only [n6tD, n6tE, putAll, Act.put, List.getD_cons_succ, List.getD_cons_zero, List.setIfInBounds_toArray, List.set_cons_zero, List.set_cons_succ] at hK ⊢
          obtain ⟨⟨a0, a1, a2, _⟩, _⟩ := hj.p (w.heap.size, x) (by simp)
          go_simp
          exact hK.out _ _ (Below.refl _ _) rfl
        refine owes_cons (Owes.mk (o := ({ dst := some 20, op := .call { callee := .value (.func 19), args := #[.tmp 19], argTypes := #[25] }, type := 25, pos := "law.go:47", after := #[{ on := 1, ground := .data }], guard := none } : Oper)) rfl (fun v wk hj hD K hK => ?_)) ?_
        · have h1 : v 1 = (x.val) := hD 1 (by decide)
          simp only [n6tD, n6tE, putAll, Act.put, List.getD_cons_succ, List.getD_cons_zero, List.setIfInBounds_toArray, List.set_cons_zero, List.set_cons_succ, h1] at hK ⊢
          go_simp
          refine (refNegate_any wk (d + 26) x (hj.p (w.heap.size, x) (by simp)).2).mono ?_
          intro e w2 hn
          obtain ⟨q, rfl, tq, iq, hb⟩ := hn
          exact hK.out _ _ hb ⟨q, rfl, tq, iq.up (by omega)⟩
        refine owes_cons (Owes.mk (o := ({ dst := some 21, op := .call { callee := .value (.func 18), args := #[.tmp 18, .tmp 20], argTypes := #[25, 25] }, type := 4, pos := "law.go:47", after := #[{ on := 0, ground := .data }, { on := 2, ground := .data }, { on := 2, ground := .chain }], guard := none } : Oper)) rfl (fun v wk hj hD K hK => ?_)) ?_
        · have h0 : v 0 = (a.val) := hD 0 (by decide)
          obtain ⟨q2, h2, t2, r2⟩ : IsPt (d + 39) (ngP x.t) (v 2) wk := hD 2 (by decide)
          simp only [n6tD, n6tE, putAll, Act.put, List.getD_cons_succ, List.getD_cons_zero, List.setIfInBounds_toArray, List.set_cons_zero, List.set_cons_succ, h0, h2] at hK ⊢
          go_simp
          refine (sameP_any (d + 26) wk (d + 39) a q2 (TA.out.trans t2.symm) (hj.p (w2.heap.size, a) (by simp)).2 r2).mono ?_
          rintro e w2 ⟨rfl, hb⟩
          exact hK.out _ _ hb rfl
        refine owes_cons (Owes.mk (o := ({ dst := some 22, op := .unOp Go.UnOp.not 4 (.tmp 21), type := 4, pos := "law.go:47", after := #[{ on := 3, ground := .data }], guard := none } : Oper)) rfl (fun v wk hj hD K hK => ?_)) ?_
        · have h3 : v 3 = (.bool true) := hD 3 (by decide)
          simp only [n6tD, n6tE, putAll, Act.put, List.getD_cons_succ, List.getD_cons_zero, List.setIfInBounds_toArray, List.set_cons_zero, List.set_cons_succ, h3] at hK ⊢
          go_simp
          exact hK.out _ _ (Below.refl _ _) rfl
        refine owes_cons (Owes.mk (o := ({ dst := some 23, op := .move (.tmp 22), type := 4, pos := "law.go:47", after := #[{ on := 4, ground := .data }, { on := 3, ground := .chain }], guard := none } : Oper)) rfl (fun v wk hj hD K hK => ?_)) ?_
        · have h4 : v 4 = (.bool (false)) := hD 4 (by decide)
          simp only [n6tD, n6tE, putAll, Act.put, List.getD_cons_succ, List.getD_cons_zero, List.setIfInBounds_toArray, List.set_cons_zero, List.set_cons_succ, h4] at hK ⊢
          go_simp
          exact hK.out _ _ (Below.refl _ _) rfl
        refine owes_cons (Owes.mk (o := ({ dst := some 24, op := .load 25 (.tmp 1), type := 25, pos := "law.go:47", after := #[{ on := 5, ground := .guard }], guard := some (5, false) } : Oper)) rfl (fun v wk hj hD K hK => ?_)) ?_
        · have h5 : v 5 = (.bool (false)) := hD 5 (by decide)
          simp only [n6tD, n6tE, putAll, Act.put, List.getD_cons_succ, List.getD_cons_zero, List.setIfInBounds_toArray, List.set_cons_zero, List.set_cons_succ, h5] at hK ⊢
          obtain ⟨⟨a0, a1, a2, _⟩, _⟩ := hj.p (w.heap.size, x) (by simp)
          go_simp
          exact hK.out _ _ (Below.refl _ _) rfl
        refine owes_cons (Owes.mk (o := ({ dst := some 25, op := .call { callee := .value (.func 13), args := #[.tmp 24], argTypes := #[25] }, type := 3, pos := "law.go:47", after := #[{ on := 6, ground := .data }, { on := 5, ground := .chain }, { on := 5, ground := .guard }], guard := some (5, false) } : Oper)) rfl (fun v wk hj hD K hK => ?_)) ?_
        · have h5 : v 5 = (.bool (false)) := hD 5 (by decide)
          have h6 : v 6 = (x.val) := hD 6 (by decide)
          simp only [n6tD, n6tE, putAll, Act.put, List.getD_cons_succ, List.getD_cons_zero, List.setIfInBounds_toArray, List.set_cons_zero, List.set_cons_succ, h5, h6] at hK ⊢
          go_simp
          refine (refPCheck wk (d + 26) x (hj.p (w.heap.size, x) (by simp)).2).mono ?_
          rintro e w2 ⟨rfl, hb⟩
          exact hK.out _ _ hb (by rw [hok]; rfl)
        refine owes_cons (Owes.mk (o := ({ dst := some 26, op := .binOp .eql 3 (.tmp 25) (.const (.int .i64 0)) 3, type := 4, pos := "law.go:47", after := #[{ on := 7, ground := .data }, { on := 5, ground := .guard }], guard := some (5, false) } : Oper)) rfl (fun v wk hj hD K hK => ?_)) ?_
        · have h5 : v 5 = (.bool (false)) := hD 5 (by decide)
          have h7 : v 7 = (.int .i64 (errI true)) := hD 7 (by decide)
          simp only [n6tD, n6tE, putAll, Act.put, List.getD_cons_succ, List.getD_cons_zero, List.setIfInBounds_toArray, List.set_cons_zero, List.set_cons_succ, h5, h7] at hK ⊢
          go_simp
          exact hK.out _ _ (Below.refl _ _) rfl
        refine owes_cons (Owes.mk (o := ({ dst := some 27, op := .move (.tmp 26), type := 4, pos := "law.go:47", after := #[{ on := 8, ground := .data }, { on := 7, ground := .chain }, { on := 5, ground := .guard }], guard := some (5, false) } : Oper)) rfl (fun v wk hj hD K hK => ?_)) ?_
        · have h5 : v 5 = (.bool (false)) := hD 5 (by decide)
          have h8 : v 8 = (.bool (true)) := hD 8 (by decide)
          simp only [n6tD, n6tE, putAll, Act.put, List.getD_cons_succ, List.getD_cons_zero, List.setIfInBounds_toArray, List.set_cons_zero, List.set_cons_succ, h5, h8] at hK ⊢
          go_simp
          exact hK.out _ _ (Below.refl _ _) rfl
        refine owes_cons (Owes.mk (o := ({ dst := some 28, op := .load 25 (.tmp 5), type := 25, pos := "law.go:47", after := #[{ on := 9, ground := .guard }], guard := some (9, true) } : Oper)) rfl (fun v wk hj hD K hK => ?_)) ?_
        · have h9 : v 9 = (.bool (true)) := hD 9 (by decide)
          simp only [n6tD, n6tE, putAll, Act.put, List.getD_cons_succ, List.getD_cons_zero, List.setIfInBounds_toArray, List.set_cons_zero, List.set_cons_succ, h9] at hK ⊢
          obtain ⟨⟨a0, a1, a2, _⟩, _⟩ := hj.p (w4.heap.size, c) (by simp)
          go_simp
          exact hK.out _ _ (Below.refl _ _) rfl
        refine owes_cons (Owes.mk (o := ({ dst := some 29, op := .load 25 (.tmp 1), type := 25, pos := "law.go:47", after := #[{ on := 9, ground := .guard }], guard := some (9, true) } : Oper)) rfl (fun v wk hj hD K hK => ?_)) ?_
        · have h9 : v 9 = (.bool (true)) := hD 9 (by decide)
          simp only [n6tD, n6tE, putAll, Act.put, List.getD_cons_succ, List.getD_cons_zero, List.setIfInBounds_toArray, List.set_cons_zero, List.set_cons_succ, h9] at hK ⊢
          obtain ⟨⟨a0, a1, a2, _⟩, _⟩ := hj.p (w.heap.size, x) (by simp)
          go_simp
          exact hK.out _ _ (Below.refl _ _) rfl
        refine owes_cons (Owes.mk (o := ({ dst := some 30, op := .call { callee := .value (.func 18), args := #[.tmp 28, .tmp 29], argTypes := #[25, 25] }, type := 4, pos := "law.go:47", after := #[{ on := 10, ground := .data }, { on := 11, ground := .data }, { on := 9, ground := .chain }, { on := 9, ground := .guard }], guard := some (9, true) } : Oper)) rfl (fun v wk hj hD K hK => ?_)) ?_
        · have h9 : v 9 = (.bool (true)) := hD 9 (by decide)
          have h10 : v 10 = (c.val) := hD 10 (by decide)
          have h11 : v 11 = (x.val) := hD 11 (by decide)
          simp only [n6tD, n6tE, putAll, Act.put, List.getD_cons_succ, List.getD_cons_zero, List.setIfInBounds_toArray, List.set_cons_zero, List.set_cons_succ, h9, h10, h11] at hK ⊢
          go_simp
          refine (sameP_any (d + 26) wk (d + 26) c x (TC.out.trans (copyP_ok 12 12 _ hok (Nat.le_refl _))) (hj.p (w4.heap.size, c) (by simp)).2 (hj.p (w.heap.size, x) (by simp)).2).mono ?_
          rintro e w2 ⟨rfl, hb⟩
          exact hK.out _ _ hb rfl
        refine owes_cons (Owes.mk (o := ({ dst := some 31, op := .unOp Go.UnOp.not 4 (.tmp 30), type := 4, pos := "law.go:47", after := #[{ on := 12, ground := .data }, { on := 9, ground := .guard }], guard := some (9, true) } : Oper)) rfl (fun v wk hj hD K hK => ?_)) ?_
        · have h9 : v 9 = (.bool (true)) := hD 9 (by decide)
          have h12 : v 12 = (.bool true) := hD 12 (by decide)
          simp only [n6tD, n6tE, putAll, Act.put, List.getD_cons_succ, List.getD_cons_zero, List.setIfInBounds_toArray, List.set_cons_zero, List.set_cons_succ, h9, h12] at hK ⊢
          go_simp
          exact hK.out _ _ (Below.refl _ _) rfl
        refine owes_cons (Owes.mk (o := ({ dst := some 32, op := .pick (.tmp 27) (.tmp 31) (.const (.bool false)), type := 4, pos := "law.go:47", after := #[{ on := 9, ground := .data }, { on := 13, ground := .data }, { on := 5, ground := .guard }], guard := some (5, false) } : Oper)) rfl (fun v wk hj hD K hK => ?_)) ?_
        · have h5 : v 5 = (.bool (false)) := hD 5 (by decide)
          have h9 : v 9 = (.bool (true)) := hD 9 (by decide)
          have h13 : v 13 = (.bool (false)) := hD 13 (by decide)
          simp only [n6tD, n6tE, putAll, Act.put, List.getD_cons_succ, List.getD_cons_zero, List.setIfInBounds_toArray, List.set_cons_zero, List.set_cons_succ, h5, h9, h13] at hK ⊢
          go_simp
          exact hK.out _ _ (Below.refl _ _) rfl
        refine owes_cons (Owes.mk (o := ({ dst := some 33, op := .pick (.tmp 23) (.const (.bool true)) (.tmp 32), type := 4, pos := "law.go:47", after := #[{ on := 5, ground := .data }, { on := 14, ground := .data }], guard := none } : Oper)) rfl (fun v wk hj hD K hK => ?_)) ?_
        · have h5 : v 5 = (.bool (false)) := hD 5 (by decide)
          have h14 : v 14 = (.bool (false)) := hD 14 (by decide)
          simp only [n6tD, n6tE, putAll, Act.put, List.getD_cons_succ, List.getD_cons_zero, List.setIfInBounds_toArray, List.set_cons_zero, List.set_cons_succ, h5, h14] at hK ⊢
          go_simp
          exact hK.out _ _ (Below.refl _ _) rfl
        exact owes_nil
      · intro v wf hj hr
        have hl : v 15 = .bool false := hr 15 (by decide)
        simp only [n6tD, putAll, Act.put, List.getD_cons_succ, List.getD_cons_zero, List.setIfInBounds_toArray, List.set_cons_zero, List.set_cons_succ, hl]
        clear hl hr
        have HJ := Lib.hid hj
        clear hj
        go_wp2_with fail
        go_meet
        exact ⟨rfl, HJ.out⟩
  case rest =>
    obtain ⟨rfl, kc⟩ := hcut
    have T := Lib.hid kc.bel
    clear kc K6
    have CA := Lib.hid (CA4.out.next T.out)
    have CB := Lib.hid (CB4.out.next T.out)
    have CC := Lib.hid (CC4.out.next T.out)
    have KP := Lib.hid (KP4.out.next T.out)
    have BC := Lib.hid (bnext BW4.out T.out)
    have START := Lib.hid (show WI w wc w1.heap.size w2.heap.size W3.heap.size w4.heap.size A1 A1' A3' (ngP x.t).v.length (ngP x.t).p.length (copyP 12 x.t).p.length wc from ⟨Only.refl _ _ _ _ _, BC.out, MV4.out.kept (Kept.of_below T.out (by have := Z.out; omega)), MP4.out.kept (Kept.of_below T.out (by have := Z.out; omega)), MC4.out.kept (Kept.of_below T.out (by have := Z.out; omega))⟩)
    have RB5 := Lib.hid (RB4.out.keep (Kept.of_below T.out (by have := Z.out; omega)))
    have XC := Lib.hid (HX.out.keep (Kept.of_below BC.out (Nat.le_refl _)))
    have hvb : (ngP x.t).v.length ≤ 1759218604441 := R1.out.2.1.choose_spec.big
    have hpb : (ngP x.t).p.length ≤ 2513169434843 := R1.out.2.2.big
    have hcb : (copyP 12 x.t).p.length ≤ 2513169434843 := RC4.out.2.2.big
    obtain ⟨p0, p1, p2, _⟩ := CA.out
    go_wp2
    go_loopw [6] (fun i wr => ∃ k : Nat, k ≤ (ngP x.t).v.length ∧ i = .int .i64 k ∧ Hid (WI w wc w1.heap.size w2.heap.size W3.heap.size w4.heap.size A1 A1' A3' (ngP x.t).v.length (ngP x.t).p.length (copyP 12 x.t).p.length wr)) (fun i _ => (ngP x.t).v.length - (intOf i).toNat)
    case atStart => exact ⟨0, by omega, rfl, START⟩
    case round =>
      obtain ⟨k, hk, rfl, hI⟩ := hrel
      have START := hI
      obtain ⟨p0, p1, p2, _⟩ := hI.out.only.cellP CA.out (by have := Z.out; omega) (by have := Z.out; omega)
      by_cases hlt : k < (ngP x.t).v.length
      · obtain ⟨g, e, g1, g2, hb⟩ := hI.out.mv (by omega)
        obtain ⟨u, f⟩ := hb.cell (i := k * 5 + 1) (by omega)
        have z := hb.frozen (k * 5 + 1)
        have IN := Lib.hid (hI.out.set (by have := Z.out; omega) g (k * 5 + 1) (.int .i64 (-7)) (.inl ⟨g1, g2⟩))
        clear hb START
        have k0 : (0 : Int) ≤ (k : Int) := by omega
        have k2 : (k : Int) < ((ngP x.t).v.length : Nat) := by omega
        rw [e] at p1
        clear e
        go_wp2
        go_roundw
        case rel => exact ⟨k + 1, by omega, by go_num, IN⟩
        case measure => simp [intOf]; omega
      · obtain ⟨q0, q1, q2, _⟩ := hI.out.only.cellP CA.out (by have := Z.out; omega) (by have := Z.out; omega)
        clear hI
        go_wp2
        go_loopw [7] (fun i wr => ∃ k : Nat, k ≤ (ngP x.t).p.length ∧ i = .int .i64 k ∧ Hid (WI w wc w1.heap.size w2.heap.size W3.heap.size w4.heap.size A1 A1' A3' (ngP x.t).v.length (ngP x.t).p.length (copyP 12 x.t).p.length wr)) (fun i _ => (ngP x.t).p.length - (intOf i).toNat)
        case atStart => exact ⟨0, by omega, rfl, START⟩
        case round =>
          obtain ⟨k, hk, rfl, hI⟩ := hrel
          have START := hI
          obtain ⟨p0, p1, p2, _⟩ := hI.out.only.cellP CA.out (by have := Z.out; omega) (by have := Z.out; omega)
          by_cases hlt : k < (ngP x.t).p.length
          · obtain ⟨g, e, g1, g2, hb⟩ := hI.out.mp (by omega)
            obtain ⟨u, f⟩ := hb.cell (i := k * 3) (by omega)
            have z := hb.frozen (k * 3)
            have IN := Lib.hid (hI.out.set (by have := Z.out; omega) g (k * 3) (.int .i64 (-7)) (.inl ⟨g1, g2⟩))
            clear hb START
            have k0 : (0 : Int) ≤ (k : Int) := by omega
            have k2 : (k : Int) < ((ngP x.t).p.length : Nat) := by omega
            rw [e] at p2
            clear e
            go_wp2
            go_roundw
            case rel => exact ⟨k + 1, by omega, by go_num, IN⟩
            case measure => simp [intOf]; omega
          · obtain ⟨q0, q1, q2, _⟩ := hI.out.only.cellP CC.out (by have := Z.out; omega) (by have := Z.out; omega)
            clear hI
            go_wp2
            go_loopw [8] (fun i wr => ∃ k : Nat, k ≤ (copyP 12 x.t).p.length ∧ i = .int .i64 k ∧ Hid (WI w wc w1.heap.size w2.heap.size W3.heap.size w4.heap.size A1 A1' A3' (ngP x.t).v.length (ngP x.t).p.length (copyP 12 x.t).p.length wr)) (fun i _ => (copyP 12 x.t).p.length - (intOf i).toNat)
            case atStart => exact ⟨0, by omega, rfl, START⟩
            case round =>
              obtain ⟨k, hk, rfl, hI⟩ := hrel
              have START := hI
              obtain ⟨p0, p1, p2, _⟩ := hI.out.only.cellP CC.out (by have := Z.out; omega) (by have := Z.out; omega)
              by_cases hlt : k < (copyP 12 x.t).p.length
              · obtain ⟨g, e, g1, g2, hb⟩ := hI.out.mc (by omega)
                obtain ⟨u, f⟩ := hb.cell (i := k * 3) (by omega)
                have z := hb.frozen (k * 3)
                have IN := Lib.hid (hI.out.set (by have := Z.out; omega) g (k * 3) (.int .i64 (-7)) (.inr ⟨g1, g2⟩))
                clear hb START
                have k0 : (0 : Int) ≤ (k : Int) := by omega
                have k2 : (k : Int) < ((copyP 12 x.t).p.length : Nat) := by omega
                rw [e] at p2
                clear e
                go_wp2
                go_roundw
                case rel => exact ⟨k + 1, by omega, by go_num, IN⟩
                case measure => simp [intOf]; omega
              · obtain ⟨q0, q1, q2, _⟩ := hI.out.only.cellP CC.out (by have := Z.out; omega) (by have := Z.out; omega)
                clear hI
                clear p0 p1 p2
                have K7 := Lib.hid (show PS w (d + 26) [(w3.heap.size, b), (w.heap.size, x)] [] wr from ⟨fun q hq => by
                  simp only [List.mem_cons, List.not_mem_nil, or_false] at hq
                  have zz := Z.out
                  have hsz := START.out.only.size
                  have hT := T.out.size
                  have hW := BC.out.size
                  rcases hq with rfl | rfl
                  · have c := START.out.only.cellP CB.out (by omega) (by omega)
                    obtain rfl := HB.out
                    exact ⟨⟨c.c0, c.c1, c.c2, c.blk.lt⟩, ((RB5.out.keep (fun k h1 h2 => START.out.only.same k (by omega) (by omega))).more (Nat.zero_le _) (by omega) (by omega))⟩
                  · refine ⟨⟨?_, ?_, ?_, ?_⟩, ((XC.out.keep (fun k h1 h2 => START.out.only.same k (by omega) (by omega))).more (Nat.zero_le _) (by omega) (by omega))⟩
                    · exact (World.cell?_of_block (a := ⟨w.heap.size, 0, none⟩) (START.out.only.same w.heap.size (by omega) (by omega))).trans KP.out.c0
                    · exact (World.cell?_of_block (a := ⟨w.heap.size, 1, none⟩) (START.out.only.same w.heap.size (by omega) (by omega))).trans KP.out.c1
                    · exact (World.cell?_of_block (a := ⟨w.heap.size, 2, none⟩) (START.out.only.same w.heap.size (by omega) (by omega))).trans KP.out.c2
                    · have := KP.out.lt
                      show w.heap.size < _
                      omega, (by intro _ h; cases h), START.out.bel⟩)
                go_wp2_with fail
                refine region_phase_all [0, 1, 2, 3, 4, 5, 6, 7, 8, 9, 10, 11, 12, 13] n20D n20E (fun w' => PS w (d + 26) [(w3.heap.size, b), (w.heap.size, x)] [] w') (saidOf [Is (b.val), Is (x.val), IsPt (d + 39) (ngP x.t), Is (.bool true), Is (.bool true), Is (x.val), IsPt 26 (ngP x.t), Is (b.val), Is (.bool true), Is (.bool true), Is (.bool true), Is (.bool true), Is (.bool true), Is (.bool true)]) 83 (by rfl) (by kernel_rfl) (by kernel_rfl) (by kernel_rfl) (fun _ _ h hb => h.next hb) (stays_said _ (stays_cons (Is.stays _) (stays_cons (Is.stays _) (stays_cons (IsPt.stays _ _) (stays_cons (Is.stays _) (stays_cons (Is.stays _) (stays_cons (Is.stays _) (stays_cons (IsPt.stays _ _) (stays_cons (Is.stays _) (stays_cons (Is.stays _) (stays_cons (Is.stays _) (stays_cons (Is.stays _) (stays_cons (Is.stays _) (stays_cons (Is.stays _) (stays_cons (Is.stays _) stays_nil))))))))))))))) (K7.out.next (below_drewN _ _ 1)) (by kernel_rfl) ?_ ?_
                · skip
                  refine owes_cons (Owes.mk (o := ({ dst := some 70, op := .load 25 (.tmp 4), type := 25, pos := "law.go:59", after := #[], guard := none } : Oper)) rfl (fun v wk hj hD K hK => ?_)) ?_
                  · simp only [n20D, n20E, putAll, Act.put, List.getD_cons_zero, List.setIfInBounds_toArray, List.set_cons_zero, List.set_cons_succ] at hK ⊢
                    obtain ⟨⟨a0, a1, a2, _⟩, _⟩ := hj.p (w3.heap.size, b) (by simp)
                    go_simp
                    exact hK.out _ _ (Below.refl _ _) rfl
                  refine owes_cons (Owes.mk (o := ({ dst := some 71, op := .load 25 (.tmp 1), type := 25, pos := "law.go:59", after := #[], guard := none } : Oper)) rfl (fun v wk hj hD K hK => ?_)) ?_
                  · simp only [n20D, n20E, putAll, Act.put, List.getD_cons_succ, List.getD_cons_zero, List.setIfInBounds_toArray, List.set_cons_zero, List.set_cons_succ] at hK ⊢
                    obtain ⟨⟨a0, a1, a2, _⟩, _⟩ := hj.p (w.heap.size, x) (by simp)
                    go_simp
                    exact hK.out _ _ (Below.refl _ _) rfl
                  refine owes_cons (Owes.mk (o := ({ dst := some 72, op := .call { callee := .value (.func 19), args := #[.tmp 71], argTypes := #[25] }, type := 25, pos := "law.go:59", after := #[{ on := 1, ground := .data }], guard := none } : Oper)) rfl (fun v wk hj hD K hK => ?_)) ?_
                  · have h1 : v 1 = (x.val) := hD 1 (by decide)
                    simp only [n20D, n20E, putAll, Act.put, List.getD_cons_succ, List.getD_cons_zero, List.setIfInBounds_toArray, List.set_cons_zero, List.set_cons_succ, h1] at hK ⊢
                    go_simp
                    refine (refNegate_any wk (d + 26) x (hj.p (w.heap.size, x) (by simp)).2).mono ?_
                    intro e w2 hn
                    obtain ⟨q, rfl, tq, iq, hb⟩ := hn
                    exact hK.out _ _ hb ⟨q, rfl, tq, iq.up (by omega)⟩
                  refine owes_cons (Owes.mk (o := ({ dst := some 73, op := .call { callee := .value (.func 18), args := #[.tmp 70, .tmp 72], argTypes := #[25, 25] }, type := 4, pos := "law.go:59", after := #[{ on := 0, ground := .data }, { on := 2, ground := .data }, { on := 2, ground := .chain }], guard := none } : Oper)) rfl (fun v wk hj hD K hK => ?_)) ?_
                  · have h0 : v 0 = (b.val) := hD 0 (by decide)
                    obtain ⟨q2, h2, t2, r2⟩ : IsPt (d + 39) (ngP x.t) (v 2) wk := hD 2 (by decide)
                    simp only [n20D, n20E, putAll, Act.put, List.getD_cons_succ, List.getD_cons_zero, List.setIfInBounds_toArray, List.set_cons_zero, List.set_cons_succ, h0, h2] at hK ⊢
                    go_simp
                    refine (sameP_any (d + 26) wk (d + 39) b q2 (TB.out.trans t2.symm) (hj.p (w3.heap.size, b) (by simp)).2 r2).mono ?_
                    rintro e w2 ⟨rfl, hb⟩
                    exact hK.out _ _ hb rfl
                  refine owes_cons (Owes.mk (o := ({ dst := some 74, op := .move (.tmp 73), type := 4, pos := "law.go:59", after := #[{ on := 3, ground := .data }, { on := 3, ground := .chain }], guard := none } : Oper)) rfl (fun v wk hj hD K hK => ?_)) ?_
                  · have h3 : v 3 = (.bool true) := hD 3 (by decide)
                    simp only [n20D, n20E, putAll, Act.put, List.getD_cons_succ, List.getD_cons_zero, List.setIfInBounds_toArray, List.set_cons_zero, List.set_cons_succ, h3] at hK ⊢
                    go_simp
                    exact hK.out _ _ (Below.refl _ _) rfl
                  refine owes_cons (Owes.mk (o := ({ dst := some 75, op := .load 25 (.tmp 1), type := 25, pos := "law.go:59", after := #[{ on := 4, ground := .guard }], guard := some (4, true) } : Oper)) rfl (fun v wk hj hD K hK => ?_)) ?_
                  · have h4 : v 4 = (.bool true) := hD 4 (by decide)
                    simp only [n20D, n20E, putAll, Act.put, List.getD_cons_succ, List.getD_cons_zero, List.setIfInBounds_toArray, List.set_cons_zero, List.set_cons_succ, h4] at hK ⊢
                    obtain ⟨⟨a0, a1, a2, _⟩, _⟩ := hj.p (w.heap.size, x) (by simp)
                    go_simp
                    exact hK.out _ _ (Below.refl _ _) rfl
                  refine owes_cons (Owes.mk (o := ({ dst := some 76, op := .call { callee := .value (.func 16), args := #[.tmp 75], argTypes := #[25] }, type := 25, pos := "law.go:59", after := #[{ on := 5, ground := .data }, { on := 4, ground := .chain }, { on := 4, ground := .guard }], guard := some (4, true) } : Oper)) rfl (fun v wk hj hD K hK => ?_)) ?_
                  · have h4 : v 4 = (.bool true) := hD 4 (by decide)
                    have h5 : v 5 = (x.val) := hD 5 (by decide)
                    simp only [n20D, n20E, putAll, Act.put, List.getD_cons_succ, List.getD_cons_zero, List.setIfInBounds_toArray, List.set_cons_zero, List.set_cons_succ, h4, h5] at hK ⊢
                    go_simp
                    refine (negate_any wk (d + 26) x (hj.p (w.heap.size, x) (by simp)).2).mono ?_
                    intro e w2 hn
                    obtain ⟨q, rfl, tq, iq, hb⟩ := hn.one
                    exact hK.out _ _ hb ⟨q, rfl, tq, iq.up (by omega)⟩
                  refine owes_cons (Owes.mk (o := ({ dst := some 77, op := .load 25 (.tmp 4), type := 25, pos := "law.go:59", after := #[{ on := 4, ground := .guard }], guard := some (4, true) } : Oper)) rfl (fun v wk hj hD K hK => ?_)) ?_
                  · have h4 : v 4 = (.bool true) := hD 4 (by decide)
                    simp only [n20D, n20E, putAll, Act.put, List.getD_cons_succ, List.getD_cons_zero, List.setIfInBounds_toArray, List.set_cons_zero, List.set_cons_succ, h4] at hK ⊢
                    obtain ⟨⟨a0, a1, a2, _⟩, _⟩ := hj.p (w3.heap.size, b) (by simp)
                    go_simp
                    exact hK.out _ _ (Below.refl _ _) rfl
                  refine owes_cons (Owes.mk (o := ({ dst := some 78, op := .call { callee := .value (.func 18), args := #[.tmp 76, .tmp 77], argTypes := #[25, 25] }, type := 4, pos := "law.go:59", after := #[{ on := 6, ground := .data }, { on := 7, ground := .data }, { on := 6, ground := .chain }, { on := 4, ground := .guard }], guard := some (4, true) } : Oper)) rfl (fun v wk hj hD K hK => ?_)) ?_
                  · have h4 : v 4 = (.bool true) := hD 4 (by decide)
                    obtain ⟨q6, h6, t6, r6⟩ : IsPt 26 (ngP x.t) (v 6) wk := hD 6 (by decide)
                    have h7 : v 7 = (b.val) := hD 7 (by decide)
                    simp only [n20D, n20E, putAll, Act.put, List.getD_cons_succ, List.getD_cons_zero, List.setIfInBounds_toArray, List.set_cons_zero, List.set_cons_succ, h4, h6, h7] at hK ⊢
                    go_simp
                    refine (sameP_any 26 wk (d + 26) q6 b (t6.trans TB.out.symm) r6 (hj.p (w3.heap.size, b) (by simp)).2).mono ?_
                    rintro e w2 ⟨rfl, hb⟩
                    exact hK.out _ _ hb rfl
                  refine owes_cons (Owes.mk (o := ({ dst := some 79, op := .pick (.tmp 74) (.tmp 78) (.const (.bool false)), type := 4, pos := "law.go:59", after := #[{ on := 4, ground := .data }, { on := 8, ground := .data }], guard := none } : Oper)) rfl (fun v wk hj hD K hK => ?_)) ?_
                  · have h4 : v 4 = (.bool true) := hD 4 (by decide)
                    have h8 : v 8 = (.bool true) := hD 8 (by decide)
                    simp only [n20D, n20E, putAll, Act.put, List.getD_cons_succ, List.getD_cons_zero, List.setIfInBounds_toArray, List.set_cons_zero, List.set_cons_succ, h4, h8] at hK ⊢
                    go_simp
                    exact hK.out _ _ (Below.refl _ _) rfl
                  refine owes_cons (Owes.mk (o := ({ dst := some 80, op := .move (.tmp 79), type := 4, pos := "law.go:59", after := #[{ on := 9, ground := .data }, { on := 8, ground := .chain }], guard := none } : Oper)) rfl (fun v wk hj hD K hK => ?_)) ?_
                  · have h9 : v 9 = (.bool true) := hD 9 (by decide)
                    simp only [n20D, n20E, putAll, Act.put, List.getD_cons_succ, List.getD_cons_zero, List.setIfInBounds_toArray, List.set_cons_zero, List.set_cons_succ, h9] at hK ⊢
                    go_simp
                    exact hK.out _ _ (Below.refl _ _) rfl
                  refine owes_cons (Owes.mk (o := ({ dst := some 81, op := .call { callee := .value (.func 11), args := #[], argTypes := #[] }, type := 4, pos := "law.go:59", after := #[{ on := 10, ground := .chain }, { on := 10, ground := .guard }], guard := some (10, true) } : Oper)) rfl (fun v wk hj hD K hK => ?_)) ?_
                  · have h10 : v 10 = (.bool true) := hD 10 (by decide)
                    simp only [n20D, n20E, putAll, Act.put, List.getD_cons_succ, List.getD_cons_zero, List.setIfInBounds_toArray, List.set_cons_zero, List.set_cons_succ, h10] at hK ⊢
                    go_simp
                    refine (known_any wk).mono ?_
                    rintro e w2 ⟨rfl, hb⟩
                    exact hK.out _ _ hb rfl
                  refine owes_cons (Owes.mk (o := ({ dst := some 82, op := .pick (.tmp 80) (.tmp 81) (.const (.bool false)), type := 4, pos := "law.go:59", after := #[{ on := 10, ground := .data }, { on := 11, ground := .data }], guard := none } : Oper)) rfl (fun v wk hj hD K hK => ?_)) ?_
                  · have h10 : v 10 = (.bool true) := hD 10 (by decide)
                    have h11 : v 11 = (.bool true) := hD 11 (by decide)
                    simp only [n20D, n20E, putAll, Act.put, List.getD_cons_succ, List.getD_cons_zero, List.setIfInBounds_toArray, List.set_cons_zero, List.set_cons_succ, h10, h11] at hK ⊢
                    go_simp
                    exact hK.out _ _ (Below.refl _ _) rfl
                  refine owes_cons (Owes.mk (o := ({ dst := some 2, op := .assign (.tmp 82), type := 4, pos := "law.go:59", after := #[{ on := 12, ground := .data }, { on := 11, ground := .chain }, { on := 0, ground := .phase }, { on := 1, ground := .phase }, { on := 2, ground := .phase }, { on := 3, ground := .phase }, { on := 4, ground := .phase }, { on := 5, ground := .phase }, { on := 6, ground := .phase }, { on := 7, ground := .phase }, { on := 8, ground := .phase }, { on := 9, ground := .phase }, { on := 10, ground := .phase }, { on := 11, ground := .phase }, { on := 12, ground := .phase }], guard := none } : Oper)) rfl (fun v wk hj hD K hK => ?_)) ?_
                  · have h12 : v 12 = (.bool true) := hD 12 (by decide)
                    simp only [n20D, n20E, putAll, Act.put, List.getD_cons_succ, List.getD_cons_zero, List.setIfInBounds_toArray, List.set_cons_zero, List.set_cons_succ, h12] at hK ⊢
                    go_simp
                    exact hK.out _ _ (Below.refl _ _) rfl
                  exact owes_nil
                · intro v wf hj hr
                  have hl : v 13 = .bool true := hr 13 (by decide)
                  simp only [n20D, putAll, Act.put, List.getD_cons_succ, List.getD_cons_zero, List.setIfInBounds_toArray, List.set_cons_zero, List.set_cons_succ, hl]
                  clear hl hr
                  have HJ := Lib.hid hj
                  clear hj
                  go_wp2
                  go_ret
                  exact ⟨rfl, HJ.out.bel⟩
end Go.Proofs.Ytiiccefnfepccaa
