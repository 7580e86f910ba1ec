/- Carried over from an earlier seat. -/
import Derived.Test.YtllkimdlmnjoiaaGreatDoorVF
import Derived.Test.YtllkimdlmnjoiaaGreatDoorVG
namespace Go.Proofs.YtllkimdlmnjoiaaGreatDoor
set_option maxRecDepth 100000
set_option maxRecDepth 100000
set_option maxRecDepth 100000
set_option maxRecDepth 100000
set_option maxRecDepth 100000
open Go.RowKit

/-- May it be, r levels above the first one that is too deep? -/
def okV : Nat → V → Bool
  | 0, _ => false
  | r + 1, t => fitsV t && t.l.all (okV r) && t.m.all (okV r) && (t.k != 7 || risesV t.l)

def IsVal (r : Nat) : Prop :=
  ∀ (w : World) (da : Nat) (a : V) (A : Option Addr) (c : Nat) (A' : Option Addr) (c' : Nat) (lev : Int), lev = 13 - r → r ≤ 12 → Rd w 0 w.heap.size da a A c A' c' →
    Calls Tryz.prog 124 #[vl a A c A' c', .int .i64 lev] w fun e w' => e = .returned (.bool (okV r a)) ∧ Below w.heap.size w w'

/-- A value's box and a number's. -/
theorem boxes2 (w : World) (v0 v1 v2 v3 v4 u : Value) (W : World) (hW : (w.alloc (.cells #[v0, v1, v2, v3, v4] 77)).alloc (.cells #[u] 3) = W) :
    Cell W w.heap.size v0 v1 v2 v3 v4 ∧ W.cell? ⟨w.heap.size + 1, 0, none⟩ = some u ∧ W.heap.size = w.heap.size + 1 + 1 ∧ Below w.heap.size w W := by
  subst hW
  refine ⟨(Cell.new w _ _ _ _ _).below (below_new _ _) (by simp), ?_, by simp, below_new2 _ _ _⟩
  rw [World.cell?_alloc_at _ _ _ _ (by simp)]; rfl

set_option maxHeartbeats 1600000 in
theorem isVal_zero : IsVal 0 := by
  intro w da a A c A' c' lev hlev _ _
  have hl : 12 < lev := by omega
  clear hlev
  unfold vl
  go_enter Tryz.func124, Tryz.ntmps124
  go_wp2
  go_ret
  exact ⟨by rfl, below_new2 _ _ _⟩

set_option maxHeartbeats 1600000 in
theorem closure_ok (r : Nat) (ih : IsVal r) (hr : r ≤ 11) (g : Nat) (w : World) (lev : Int) (hlev : lev = 12 - r) (hg : g < w.heap.size) (hc : w.cell? ⟨g, 0, none⟩ = some (.int .i64 lev)) : Preds 145 (.pointer (some ⟨g, 0, none⟩)) w (fun x => !okV r x) := by
  intro W da a A c A' c' hb ra
  have hl0 : 0 ≤ lev := by omega
  have hl1 : lev ≤ 12 := by omega
  have HL := Lib.hid hlev
  have RA := Lib.hid (ra.next (below_new W (.cells #[.int .i64 a.k, .int .i64 a.n, .string a.s, .slice A a.l.length c, .slice A' a.m.length c'] 77)))
  have l1 := cell_below (below_new W (.cells #[.int .i64 a.k, .int .i64 a.n, .string a.s, .slice A a.l.length c, .slice A' a.m.length c'] 77)) (cell_below hb hc hg) (Nat.lt_of_lt_of_le hg hb.size)
  have IH := Lib.hid ih
  clear ih hlev ra hc hb
  unfold vl
  go_enter Tryz.func145, Tryz.ntmps145
  go_wp2_with fail
  refine (IH.out _ da a _ _ _ _ (lev + 1) (by have := HL.out; omega) (by omega) RA.out).mono ?_
  rintro x w1 ⟨rfl, hb1⟩
  have HB := Lib.hid (bnext (below_new _ _) hb1)
  clear hb1
  go_wp2
  go_ret
  exact ⟨by rfl, HB.out⟩

theorem any_not (l : List V) (p : V → Bool) : l.any (fun x => !p x) = !l.all p := by rw [List.any_eq_not_all_not]; simp

theorem okV_0 (r : Nat) (t : V) (h : fitsV t = false) : okV (r + 1) t = false := by simp [okV, h]
theorem okV_1 (r : Nat) (t : V) (h : t.l.any (fun x => !okV r x) = true) : okV (r + 1) t = false := by
  rw [any_not] at h
  have : t.l.all (okV r) = false := by simpa using h
  simp [okV, this]
theorem okV_2 (r : Nat) (t : V) (h : t.m.any (fun x => !okV r x) = true) : okV (r + 1) t = false := by
  rw [any_not] at h
  have : t.m.all (okV r) = false := by simpa using h
  simp [okV, this]
theorem okV_3 (r : Nat) (t : V) (h0 : fitsV t = true) (h1 : t.l.any (fun x => !okV r x) = false) (h2 : t.m.any (fun x => !okV r x) = false) : okV (r + 1) t = (t.k != 7 || risesV t.l) := by
  rw [any_not] at h1 h2
  have a : t.l.all (okV r) = true := by simpa using h1
  have b : t.m.all (okV r) = true := by simpa using h2
  simp [okV, a, b, h0]

set_option maxHeartbeats 3200000 in
theorem isVal_succ (r : Nat) (ih : IsVal r) : IsVal (r + 1) := by
  intro w da a A c A' c' lev hlev hr ra
  have hl : lev ≤ 12 := by omega
  have HL := Lib.hid (show lev = 12 - r by omega)
  obtain ⟨da', rfl⟩ := ra.pos
  have RL := Lib.hid ra.2.1
  have RM := Lib.hid ra.2.2
  have IH := Lib.hid ih
  clear hlev ra ih
  unfold vl
  go_enter Tryz.func124, Tryz.ntmps124
  go_wp2_with fail
  generalize hW : World.alloc (World.alloc _ _) _ = W
  obtain ⟨k1, l0, hz, hb⟩ := boxes2 _ _ _ _ _ _ _ _ hW
  have K1 := Lib.hid k1
  have L0 := Lib.hid l0
  have HB := Lib.hid hb
  have hzz : w.heap.size + 1 < W.heap.size := by rw [hz]; omega
  clear hz hb hW k1 l0
  refine (fits_54 W a _ _ _ _).mono ?_
  rintro x w1 ⟨rfl, hb1⟩
  obtain ⟨a0, a1, a2, a3, a4, _, _, _, _, _, _⟩ := K1.out.below hb1 (by omega)
  have l1 := cell_below hb1 L0.out (by simp; omega)
  have B1 := Lib.hid (bnext HB.out hb1)
  have hz1 : w.heap.size + 1 < w1.heap.size := Nat.lt_of_lt_of_le hzz hb1.size
  clear hb1
  cases hf : fitsV a
  · have FIN := Lib.hid (okV_0 r a hf)
    go_wp2
    go_ret
    exact ⟨by rw [FIN.out]; rfl, B1.out⟩
  · have CL := Lib.hid (closure_ok r IH.out (by omega) (w.heap.size + 1) w1 lev HL.out hz1 l1)
    go_wp2_with fail
    refine (containsFunc55 _ _ w1 CL.out da' A c a.l (RL.out.next B1.out)).mono ?_
    rintro x w2 ⟨rfl, hb2⟩
    obtain ⟨e0, e1, e2, e3, e4⟩ : Box w2 (w.heap.size) a A c A' c' := (Box.below ⟨a0, a1, a2, a3, a4⟩ hb2 (by omega))
    have l2 := cell_below hb2 l1 (by simp; omega)
    have B2 := Lib.hid (bnext B1.out hb2)
    have hz2 : w.heap.size + 1 < w2.heap.size := Nat.lt_of_lt_of_le hz1 hb2.size
    clear hb2 a0 a1 a2 a3 a4
    cases h1 : a.l.any (fun x => !okV r x)
    · have CL2 := Lib.hid (closure_ok r IH.out (by omega) (w.heap.size + 1) w2 lev HL.out hz2 l2)
      have H1 := Lib.hid h1
      clear h1
      go_wp2_with fail
      refine (containsFunc55 _ _ w2 CL2.out da' A' c' a.m (RM.out.next B2.out)).mono ?_
      rintro x w3 ⟨rfl, hb3⟩
      obtain ⟨g0, g1, g2, g3, g4⟩ : Box w3 (w.heap.size) a A c A' c' := (Box.below ⟨e0, e1, e2, e3, e4⟩ hb3 (by omega))
      have B3 := Lib.hid (bnext B2.out hb3)
      clear hb3 e0 e1 e2 e3 e4 l1 l2
      cases h2 : a.m.any (fun x => !okV r x)
      · have FIN := Lib.hid (okV_3 r a hf H1.out h2)
        clear h2
        cases h7 : (a.k != 7)
        · go_wp2_with fail
          refine (rises_any w3 da' A c a.l (RL.out.next B3.out)).mono ?_
          rintro x w4 ⟨rfl, hb4⟩
          have B4 := Lib.hid (bnext B3.out hb4)
          clear hb4
          go_wp2
          go_ret
          exact ⟨by rw [FIN.out, h7]; rfl, B4.out⟩
        · go_wp2_with fail
          go_ret
          exact ⟨by rw [FIN.out, h7]; rfl, B3.out⟩
      · have FIN := Lib.hid (okV_2 r a h2)
        clear h2
        go_wp2_with fail
        go_ret
        exact ⟨by rw [FIN.out]; rfl, B3.out⟩
    · have FIN := Lib.hid (okV_1 r a h1)
      clear h1
      go_wp2_with fail
      go_ret
      exact ⟨by rw [FIN.out]; rfl, B2.out⟩

theorem isVal_any : ∀ r, IsVal r
  | 0 => isVal_zero
  | r + 1 => isVal_succ r (isVal_any r)

def errI (b : Bool) : Int := if b then 0 else 2
set_option maxHeartbeats 800000 in
theorem check_any (w : World) (da : Nat) (a : V) (A : Option Addr) (c : Nat) (A' : Option Addr) (c' : Nat) (ra : Rd w 0 w.heap.size da a A c A' c') :
    Calls Tryz.prog 102 #[vl a A c A' c'] w fun e w' => e = .returned (.int .i64 (errI (okV 12 a))) ∧ Below w.heap.size w w' := by
  have RA := Lib.hid (ra.next (below_new w (.cells #[.int .i64 a.k, .int .i64 a.n, .string a.s, .slice A a.l.length c, .slice A' a.m.length c'] 77)))
  clear ra
  unfold vl
  go_enter Tryz.func102, Tryz.ntmps102
  go_wp2_with fail
  refine (isVal_any 12 _ da a _ _ _ _ 1 (by omega) (by omega) RA.out).mono ?_
  rintro x w1 ⟨rfl, hb1⟩
  have HB := Lib.hid (bnext (below_new _ _) hb1)
  clear hb1
  cases hq : okV 12 a
  · go_wp2
    go_ret
    exact ⟨by rw [hq]; rfl, HB.out⟩
  · go_wp2
    go_ret
    exact ⟨by rw [hq]; rfl, HB.out⟩
end Go.Proofs.YtllkimdlmnjoiaaGreatDoor






