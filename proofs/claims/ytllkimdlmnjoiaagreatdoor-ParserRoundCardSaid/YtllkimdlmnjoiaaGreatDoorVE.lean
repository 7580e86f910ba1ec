/- Carried over from an earlier seat. -/
import Derived.Test.YtllkimdlmnjoiaaGreatDoorVA
namespace Go.Proofs.YtllkimdlmnjoiaaGreatDoor
set_option maxRecDepth 100000
set_option maxRecDepth 100000
set_option maxRecDepth 100000
set_option maxRecDepth 100000
set_option maxRecDepth 100000
open Go.RowKit

theorem compareI' (a b : Int) (w : World) : Calls Tryz.prog 166 #[.int .i64 a, .int .i64 b] w fun e w' => e = .returned (.int .i64 (cmpI a b)) ∧ w' = w := (compareI a b w).mono fun _ _ h => ⟨h.1, h.2.symm⟩
theorem compareS' (a b : ByteArray) (w : World) : Calls Tryz.prog 167 #[.string a, .string b] w fun e w' => e = .returned (.int .i64 (cmpS a b)) ∧ w' = w := (compareS a b w).mono fun _ _ h => ⟨h.1, h.2.symm⟩

/-- A value in a block of its own. -/
structure Box (w : World) (g : Nat) (t : V) (A : Option Addr) (c : Nat) (A' : Option Addr) (c' : Nat) : Prop where
  c0 : w.cell? ⟨g, 0, none⟩ = some (.int .i64 t.k)
  c1 : w.cell? ⟨g, 1, none⟩ = some (.int .i64 t.n)
  c2 : w.cell? ⟨g, 2, none⟩ = some (.string t.s)
  c3 : w.cell? ⟨g, 3, none⟩ = some (.slice A t.l.length c)
  c4 : w.cell? ⟨g, 4, none⟩ = some (.slice A' t.m.length c')
theorem Box.new (w : World) (t : V) (A : Option Addr) (c : Nat) (A' : Option Addr) (c' : Nat) : Box (w.alloc (.cells #[.int .i64 t.k, .int .i64 t.n, .string t.s, .slice A t.l.length c, .slice A' t.m.length c'] 77)) w.heap.size t A c A' c' := by
  constructor <;> (rw [World.cell?_alloc_at _ _ _ _ rfl]; rfl)
theorem Box.below {w w' : World} {B g : Nat} {t : V} {A A' : Option Addr} {c c' : Nat} (h : Box w g t A c A' c') (hb : Below B w w') (hg : g < B) : Box w' g t A c A' c' :=
  ⟨(hb.cell hg).trans h.c0, (hb.cell hg).trans h.c1, (hb.cell hg).trans h.c2, (hb.cell hg).trans h.c3, (hb.cell hg).trans h.c4⟩
theorem size_alloc (w : World) (o : Obj) : (w.alloc o).heap.size = w.heap.size + 1 := by simp
theorem cell_below {w w' : World} {B : Nat} {a : Addr} {v : Value} (hb : Below B w w') (h : w.cell? a = some v) (hB : a.block < B) : w'.cell? a = some v := (hb.cell hB).trans h

/-- value.cmpAt, r levels above the last one. -/
def CmpAt (r : Nat) : Prop :=
  ∀ (w : World) (da db : Nat) (a b : V) (A : Option Addr) (c : Nat) (A' : Option Addr) (c' : Nat) (D : Option Addr) (e : Nat) (D' : Option Addr) (e' : Nat) (lev : Int), lev = 13 - r → r ≤ 12 →
    Rd w 0 w.heap.size da a A c A' c' → Rd w 0 w.heap.size db b D e D' e' →
    Calls Tryz.prog 160 #[vl a A c A' c', vl b D e D' e', .int .i64 lev] w fun x w' => x = .returned (.int .i64 (cmpV r a b)) ∧ Below w.heap.size w w'

/-- What lies in memory behind the three boxes. -/
theorem boxes3 (w : World) (a b : V) (A : Option Addr) (c : Nat) (A' : Option Addr) (c' : Nat) (D : Option Addr) (e : Nat) (D' : Option Addr) (e' : Nat) (lev : Int) (W : World)
    (hW : ((w.alloc (.cells #[.int .i64 a.k, .int .i64 a.n, .string a.s, .slice A a.l.length c, .slice A' a.m.length c'] 77)).alloc (.cells #[.int .i64 b.k, .int .i64 b.n, .string b.s, .slice D b.l.length e, .slice D' b.m.length e'] 77)).alloc (.cells #[.int .i64 lev] 3) = W) :
    Box W w.heap.size a A c A' c' ∧ Box W (w.heap.size + 1) b D e D' e' ∧ W.cell? ⟨w.heap.size + 1 + 1, 0, none⟩ = some (.int .i64 lev) ∧ W.heap.size = w.heap.size + 1 + 1 + 1 ∧ Below w.heap.size w W := by
  subst hW
  refine ⟨((Box.new w a A c A' c').below (below_new2 _ _ _) (by simp)), ?_, ?_, by simp, below_new3 _ _ _ _⟩
  · have := (Box.new (w.alloc (.cells #[.int .i64 a.k, .int .i64 a.n, .string a.s, .slice A a.l.length c, .slice A' a.m.length c'] 77)) b D e D' e').below (below_new _ (.cells #[.int .i64 lev] 3)) (by simp)
    rw [size_alloc] at this
    exact this
  · rw [World.cell?_alloc_at _ _ _ _ (by simp)]; rfl

theorem or_cmp (a b : V) (g : Nat) (w : World) (c0 : w.cell? ⟨g, 0, none⟩ = some (.int .i64 (cmpI a.k b.k))) (c1 : w.cell? ⟨g, 1, none⟩ = some (.int .i64 (cmpI a.n b.n))) (c2 : w.cell? ⟨g, 2, none⟩ = some (.int .i64 (cmpS a.s b.s))) :
    Calls Tryz.prog 165 #[.slice (some ⟨g, 0, none⟩) 3 3] w fun e w' => e = .returned (.int .i64 (cmpF a b)) ∧ w = w' := or_any _ _ _ g w c0 c1 c2

theorem cmpV_ne (r : Nat) (a b : V) (h : (cmpF a b != 0) = true) : cmpV r a b = cmpF a b := by
  cases r with
  | zero => rfl
  | succ r => exact orI_ne h
theorem cmpV_l (r : Nat) (a b : V) (h : (cmpF a b != 0) = false) (h1 : (rowC (cmpV r) a.l b.l != 0) = true) : cmpV (r + 1) a b = rowC (cmpV r) a.l b.l := by
  show orI _ _ = _
  rw [orI_eq h, orI_ne h1]
theorem cmpV_m (r : Nat) (a b : V) (h : (cmpF a b != 0) = false) (h1 : (rowC (cmpV r) a.l b.l != 0) = false) : cmpV (r + 1) a b = rowC (cmpV r) a.m b.m := by
  show orI _ _ = _
  rw [orI_eq h, orI_eq h1]

set_option maxHeartbeats 1600000 in
theorem cmpAt_zero : CmpAt 0 := by
  intro w da db a b A c A' c' D e D' e' lev hlev _ ra rb
  have hl : 12 < lev := by omega
  clear hlev ra rb
  unfold vl
  go_enter Tryz.func160, Tryz.ntmps160
  go_wp2_with fail
  generalize hW : World.alloc (World.alloc (World.alloc _ _) _) _ = W
  obtain ⟨⟨a0, a1, a2, a3, a4⟩, ⟨b0, b1, b2, b3, b4⟩, l0, hz, hb⟩ := boxes3 _ _ _ _ _ _ _ _ _ _ _ _ _ hW
  have HZ := Lib.hid hz
  have HB := Lib.hid hb
  clear hz hb hW
  refine wp_region_still_tail 15 (by kernel_rfl) (by kernel_rfl) ?_
  simp only [List.take_succ_cons, List.take_zero, List.drop_succ_cons, List.drop_zero]
  change wpStill _ _ W.drew _ _ _
  repeat (first | still_step | still_call (compareI' _ _ _) | still_call (compareS' _ _ _))
  refine wpStill_nil ?_
  change wpList _ _ _ _ _ W.drew
  go_wp2_with fail
  refine (or_cmp a b _ _ (by simp) (by simp) (by simp)).mono ?_
  rintro x w1 ⟨rfl, rfl⟩
  have l1 : (W.alloc (Obj.cells #[.int .i64 (cmpI a.k b.k), .int .i64 (cmpI a.n b.n), .int .i64 (cmpS a.s b.s)] 3)).cell? ⟨w.heap.size + 1 + 1, 0, none⟩ = some (.int .i64 lev) := cell_below (below_new _ _) l0 (by rw [HZ.out]; simp)
  cases hne : (cmpF a b != 0)
  · go_wp2
    go_ret
    exact ⟨by rfl, bnext HB.out (below_new _ _).drew⟩
  · go_wp2
    go_ret
    exact ⟨by rfl, bnext HB.out (below_new _ _).drew⟩

set_option maxHeartbeats 1600000 in
theorem closure_cmp (r : Nat) (ih : CmpAt r) (hr : r ≤ 11) (g : Nat) (w : World) (lev : Int) (hlev : lev = 12 - r) (hg : g < w.heap.size) (hc : w.cell? ⟨g, 0, none⟩ = some (.int .i64 lev)) : Cmps (.pointer (some ⟨g, 0, none⟩)) w (cmpV r) := by
  intro W da db a b A c A' c' D e D' e' hb ra rb
  have hl0 : 0 ≤ lev := by omega
  have hl1 : lev ≤ 12 := by omega
  have HL := Lib.hid hlev
  have RA := Lib.hid (ra.next (below_new2 W (.cells #[.int .i64 a.k, .int .i64 a.n, .string a.s, .slice A a.l.length c, .slice A' a.m.length c'] 77) (.cells #[.int .i64 b.k, .int .i64 b.n, .string b.s, .slice D b.l.length e, .slice D' b.m.length e'] 77)))
  have RB := Lib.hid (rb.next (below_new2 W (.cells #[.int .i64 a.k, .int .i64 a.n, .string a.s, .slice A a.l.length c, .slice A' a.m.length c'] 77) (.cells #[.int .i64 b.k, .int .i64 b.n, .string b.s, .slice D b.l.length e, .slice D' b.m.length e'] 77)))
  have l1 := cell_below (below_new2 W (.cells #[.int .i64 a.k, .int .i64 a.n, .string a.s, .slice A a.l.length c, .slice A' a.m.length c'] 77) (.cells #[.int .i64 b.k, .int .i64 b.n, .string b.s, .slice D b.l.length e, .slice D' b.m.length e'] 77)) (cell_below hb hc hg) (Nat.lt_of_lt_of_le hg hb.size)
  have IH := Lib.hid ih
  clear ih hlev ra rb hc hb
  unfold vl
  go_enter Tryz.func168, Tryz.ntmps168
  go_wp2_with fail
  refine (IH.out _ da db a b _ _ _ _ _ _ _ _ (lev + 1) (by have := HL.out; omega) (by omega) RA.out RB.out).mono ?_
  rintro x w1 ⟨rfl, hb1⟩
  have HB := Lib.hid (bnext (below_new2 _ _ _) hb1)
  clear hb1
  go_wp2
  go_ret
  exact ⟨by rfl, HB.out⟩

set_option maxHeartbeats 3200000 in
theorem cmpAt_succ (r : Nat) (ih : CmpAt r) : CmpAt (r + 1) := by
  intro w da db a b A c A' c' D e D' e' lev hlev hr ra rb
  have hl : lev ≤ 12 := by omega
  have HL := Lib.hid (show lev = 12 - r by omega)
  obtain ⟨da', rfl⟩ := ra.pos
  obtain ⟨db', rfl⟩ := rb.pos
  have RL := Lib.hid ra.2.1
  have RM := Lib.hid ra.2.2
  have QL := Lib.hid rb.2.1
  have QM := Lib.hid rb.2.2
  have IH := Lib.hid ih
  clear hlev ra rb ih
  unfold vl
  go_enter Tryz.func160, Tryz.ntmps160
  go_wp2_with fail
  generalize hW : World.alloc (World.alloc (World.alloc _ _) _) _ = W
  obtain ⟨⟨a0, a1, a2, a3, a4⟩, ⟨b0, b1, b2, b3, b4⟩, l0, hz, hb⟩ := boxes3 _ _ _ _ _ _ _ _ _ _ _ _ _ hW
  have HZ := Lib.hid hz
  have HB := Lib.hid hb
  clear hz hb hW
  refine wp_region_still_tail 15 (by kernel_rfl) (by kernel_rfl) ?_
  simp only [List.take_succ_cons, List.take_zero, List.drop_succ_cons, List.drop_zero]
  change wpStill _ _ W.drew _ _ _
  repeat (first | still_step | still_call (compareI' _ _ _) | still_call (compareS' _ _ _))
  refine wpStill_nil ?_
  change wpList _ _ _ _ _ W.drew
  go_wp2_with fail
  refine (or_cmp a b _ _ (by simp) (by simp) (by simp)).mono ?_
  rintro x w1 ⟨rfl, rfl⟩
  generalize hX : World.drew (World.alloc W _) = X
  have hwx : Below W.heap.size W X := by rw [← hX]; exact (below_new _ _).drew
  have hzz : w.heap.size + 1 + 1 < W.heap.size := by rw [HZ.out]; omega
  have x3 := cell_below hwx a3 (by simp; omega)
  have x4 := cell_below hwx a4 (by simp; omega)
  have y3 := cell_below hwx b3 (by simp; omega)
  have y4 := cell_below hwx b4 (by simp; omega)
  have l1 := cell_below hwx l0 (by simp; omega)
  have BX := Lib.hid (bnext HB.out hwx)
  have CL := Lib.hid (closure_cmp r IH.out (by omega) (w.heap.size + 1 + 1) X lev HL.out (Nat.lt_of_lt_of_le hzz hwx.size) l1)
  have hzx : w.heap.size + 1 + 1 < X.heap.size := Nat.lt_of_lt_of_le hzz hwx.size
  clear hwx hX a0 a1 a2 a3 a4 b0 b1 b2 b3 b4 l0
  cases hne : (cmpF a b != 0)
  · go_wp2_with fail
    refine (compareFunc (cmpV r) _ X CL.out da' db' A c a.l D e b.l (RL.out.next BX.out) (QL.out.next BX.out)).mono ?_
    rintro x w2 ⟨rfl, hb2⟩
    have z4 := cell_below hb2 x4 (by simp; omega)
    have u4 := cell_below hb2 y4 (by simp; omega)
    have l2 := cell_below hb2 l1 (by simp; omega)
    have B2 := Lib.hid (bnext BX.out hb2)
    have CL2 := Lib.hid (closure_cmp r IH.out (by omega) (w.heap.size + 1 + 1) w2 lev HL.out (Nat.lt_of_lt_of_le hzx hb2.size) l2)
    clear hb2
    cases hne1 : (rowC (cmpV r) a.l b.l != 0)
    · have FIN := Lib.hid (cmpV_m r a b hne hne1)
      go_wp2_with fail
      refine (compareFunc (cmpV r) _ w2 CL2.out da' db' A' c' a.m D' e' b.m (RM.out.next B2.out) (QM.out.next B2.out)).mono ?_
      rintro x w3 ⟨rfl, hb3⟩
      have B3 := Lib.hid (bnext B2.out hb3)
      clear hb3
      go_wp2
      go_ret
      exact ⟨by rw [FIN.out]; rfl, B3.out⟩
    · have FIN := Lib.hid (cmpV_l r a b hne hne1)
      go_wp2_with fail
      go_ret
      exact ⟨by rw [FIN.out]; rfl, B2.out⟩
  · have FIN := Lib.hid (cmpV_ne (r + 1) a b hne)
    go_wp2_with fail
    go_ret
    exact ⟨by rw [FIN.out]; rfl, BX.out⟩

theorem cmpAt_any : ∀ r, CmpAt r
  | 0 => cmpAt_zero
  | r + 1 => cmpAt_succ r (cmpAt_any r)

set_option maxHeartbeats 800000 in
theorem cmp_any (w : World) (da db : Nat) (a b : V) (A : Option Addr) (c : Nat) (A' : Option Addr) (c' : Nat) (D : Option Addr) (e : Nat) (D' : Option Addr) (e' : Nat)
    (ra : Rd w 0 w.heap.size da a A c A' c') (rb : Rd w 0 w.heap.size db b D e D' e') :
    Calls Tryz.prog 141 #[vl a A c A' c', vl b D e D' e'] w fun x w' => x = .returned (.int .i64 (cmpV 12 a b)) ∧ Below w.heap.size w w' := by
  have RA := Lib.hid (ra.next (below_new2 w (.cells #[.int .i64 a.k, .int .i64 a.n, .string a.s, .slice A a.l.length c, .slice A' a.m.length c'] 77) (.cells #[.int .i64 b.k, .int .i64 b.n, .string b.s, .slice D b.l.length e, .slice D' b.m.length e'] 77)))
  have RB := Lib.hid (rb.next (below_new2 w (.cells #[.int .i64 a.k, .int .i64 a.n, .string a.s, .slice A a.l.length c, .slice A' a.m.length c'] 77) (.cells #[.int .i64 b.k, .int .i64 b.n, .string b.s, .slice D b.l.length e, .slice D' b.m.length e'] 77)))
  clear ra rb
  unfold vl
  go_enter Tryz.func141, Tryz.ntmps141
  go_wp2_with fail
  refine (cmpAt_any 12 _ da db a b _ _ _ _ _ _ _ _ 1 (by omega) (by omega) RA.out RB.out).mono ?_
  rintro x w1 ⟨rfl, hb1⟩
  have HB := Lib.hid (bnext (below_new2 _ _ _) hb1)
  clear hb1
  go_wp2
  go_ret
  exact ⟨by rfl, HB.out⟩

end Go.Proofs.YtllkimdlmnjoiaaGreatDoor






