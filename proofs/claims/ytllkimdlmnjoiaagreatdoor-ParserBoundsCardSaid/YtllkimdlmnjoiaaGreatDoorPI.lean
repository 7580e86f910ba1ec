/- Carried over from an earlier seat. -/
import Derived.Test.YtllkimdlmnjoiaaGreatDoorPD
import Derived.Test.YtllkimdlmnjoiaaGreatDoorVRr
import Derived.IntWalk
namespace Go.Proofs.YtllkimdlmnjoiaaGreatDoor
set_option maxRecDepth 100000
set_option maxRecDepth 100000
set_option maxRecDepth 100000
set_option maxRecDepth 100000
open Go.RowKit Go.Sort

theorem same_refl (t : V) : (cmpV 12 t t == 0) = true := by rw [(ord_cmpV 12).refl]; rfl
theorem refSame_regrown {w : World} {da db : Nat} {a b : V} {A : Option Addr} {c : Nat} {A' : Option Addr} {c' : Nat} {D : Option Addr} {e : Nat} {D' : Option Addr} {e' : Nat}
    (ra : Rd w 0 w.heap.size da a A c A' c') (rb : Rd w 0 w.heap.size db b D e D' e') (d : Nat) (os : Array Obj) :
    Calls Tryz.prog 45 #[vl a A c A' c', vl b D e D' e'] (grow (redrawn w d) os) fun x w'' => x = .returned (.bool (cmpV 12 a b == 0)) ∧ ∃ p : Regrown, w'' = grow (redrawn w p.d) p.os :=
  Calls.regrown_of (refSame_any _ da db a b _ _ _ _ _ _ _ _ (ra.next (below_regrown w d os)) (rb.next (below_regrown w d os)))

set_option maxHeartbeats 1600000 in
/-- Two rows of the same. -/
theorem sameRows_refl (w : World) (d d' : Nat) (A : Option Addr) (c : Nat) (A' : Option Addr) (c' : Nat) (l : List V) (h : Rw w 0 w.heap.size d A c l) (h' : Rw w 0 w.heap.size d' A' c' l) :
    Calls Tryz.prog 67 #[.slice A l.length c, .slice A' l.length c'] w fun e w' => e = .returned (.bool true) ∧ Below w.heap.size w w' := by
  have H := Lib.hid h
  have H' := Lib.hid h'
  have hbig := h.big
  have e0 : ((l.length : Int) != (l.length : Int)) = false := by simp
  clear h h'
  go_enter Tryz.func67, Tryz.ntmps67
  go_wp2
  go_loopw [5] (fun i wr => ∃ k : Nat, k ≤ l.length ∧ i = .int .i64 k ∧ Hid (Below w.heap.size w wr)) (fun i _ => l.length - (intOf i).toNat)
  case atStart => exact ⟨0, by omega, rfl, Lib.hid (Below.refl _ _)⟩
  case round =>
    obtain ⟨k, hk, rfl, hbel⟩ := hrel
    by_cases hlt : k < l.length
    · obtain ⟨b, off, x, A1, c1, A2, c2, rfl, _, hb, hx, q, rx⟩ := (H.out.next hbel.out).elem hlt
      obtain ⟨b', off', y, A3, c3, A4, c4, rfl, _, hb', hy, q', ry⟩ := (H'.out.next hbel.out).elem hlt
      rw [hx] at hy
      injection hy with hy
      subst hy
      obtain ⟨q0, q1, q2, q3, q4⟩ := q
      obtain ⟨p0, p1, p2, p3, p4⟩ := q'
      have C1 := Lib.hid (fun d os => by have h := refSame_regrown rx ry d os; rw [same_refl] at h; exact h)
      clear rx ry hx
      have i0 : (0 : Int) ≤ (k : Int) := by omega
      have i2 : (k : Int) < (l.length : Int) := by omega
      have i4 : ((k : Int)).toNat = k := by omega
      replace q0 := cell_regrown q0
      replace q1 := cell_regrown q1
      replace q2 := cell_regrown q2
      replace q3 := cell_regrown q3
      replace q4 := cell_regrown q4
      replace p0 := cell_regrown p0
      replace p1 := cell_regrown p1
      replace p2 := cell_regrown p2
      replace p3 := cell_regrown p3
      replace p4 := cell_regrown p4
      go_wp2_with fail
      refine wp_region_quiet_below (by kernel_rfl) (by kernel_rfl) ?_
      repeat (first | go_big_quiet_step (exact C1.out _ _) | quiet_step (exact C1.out _ _))
      refine wpQuiet_nil ?_
      intro _ hw'
      obtain ⟨⟨dq, osq⟩, hw''⟩ := hw'
      subst hw''
      have HB := Lib.hid (bnext hbel.out (below_regrown wr dq osq))
      clear q0 q1 q2 q3 q4 p0 p1 p2 p3 p4 i4
      go_wp2
      go_roundw
      case rel => exact ⟨k + 1, by omega, by go_num, HB⟩
      case measure => simp [intOf]; omega
    · go_wp2
      go_ret
      exact ⟨rfl, hbel.out⟩

/-- Two of the same. -/
def SamePOk (d : Nat) : Prop := ∀ (w : World) (d' : Nat) (x y : Pt), x.t = y.t → x.In w d → y.In w d' → Calls Tryz.prog 46 #[x.val, y.val] w fun e w' => e = .returned (.bool true) ∧ Below w.heap.size w w'

theorem boxesPP (w : World) (x y : Pt) (W : World) (hW : (w.alloc (.cells #[.int .i64 x.t.k, .slice x.A x.t.v.length x.c, .slice x.A' x.t.p.length x.c'] 80)).alloc (.cells #[.int .i64 y.t.k, .slice y.A y.t.v.length y.c, .slice y.A' y.t.p.length y.c'] 80) = W) :
    BP W w.heap.size x ∧ BP W (w.heap.size + 1) y ∧ W.heap.size = w.heap.size + 1 + 1 ∧ Below w.heap.size w W := by
  subst hW
  have b := below_new (w.alloc (.cells #[.int .i64 x.t.k, .slice x.A x.t.v.length x.c, .slice x.A' x.t.p.length x.c'] 80)) (.cells #[.int .i64 y.t.k, .slice y.A y.t.v.length y.c, .slice y.A' y.t.p.length y.c'] 80)
  have c := BP.new (w.alloc (.cells #[.int .i64 x.t.k, .slice x.A x.t.v.length x.c, .slice x.A' x.t.p.length x.c'] 80)) y
  rw [size_alloc] at c
  exact ⟨(BP.new w x).next b, c, by simp, below_new2 _ _ _⟩

set_option maxHeartbeats 3200000 in
theorem sameP_succ (d : Nat) (ih : SamePOk d) : SamePOk (d + 1) := by
  rintro w d' ⟨t, A, c, A', c'⟩ ⟨t', D, e, D', e'⟩ h hx hy
  obtain rfl : t = t' := h
  obtain ⟨f, rfl⟩ := hy.pos
  obtain ⟨n1, v1⟩ := hx.2.1
  obtain ⟨n2, v2⟩ := hy.2.1
  have V1 := Lib.hid (show Rw w 0 w.heap.size n1 A c t.v from v1)
  have V2 := Lib.hid (show Rw w 0 w.heap.size n2 D e t.v from v2)
  have P1 := Lib.hid (show Pw w 0 w.heap.size d A' c' t.p from hx.2.2)
  have P2 := Lib.hid (show Pw w 0 w.heap.size f D' e' t.p from hy.2.2)
  have IH := Lib.hid ih
  have hbig := hx.2.2.big
  have e0 : (t.k != t.k) = false := by simp
  have e1 : ((t.p.length : Int) != (t.p.length : Int)) = false := by simp
  clear hx hy ih v1 v2
  unfold Pt.val
  go_enter Tryz.func46, Tryz.ntmps46
  go_upto_region 1 with fail
  generalize hW : World.alloc (World.alloc _ _) _ = W
  obtain ⟨k1, k2, hz, hb⟩ := boxesPP w ⟨t, A, c, A', c'⟩ ⟨t, D, e, D', e'⟩ W hW
  have K1 := Lib.hid k1
  have K2 := Lib.hid k2
  have HB := Lib.hid hb
  obtain ⟨a0, a1, a2, _⟩ := k1
  obtain ⟨b0, b1, b2, _⟩ := k2
  clear hz hW hb
  go_wp2_with fail
  refine (sameRows_refl W n1 n2 A c D e t.v (V1.out.next HB.out) (V2.out.next HB.out)).mono ?_
  rintro r w1 ⟨rfl, hb1⟩
  have B1 := Lib.hid (bnext HB.out hb1)
  have K3 := Lib.hid (K1.out.next hb1)
  have K4 := Lib.hid (K2.out.next hb1)
  clear hb1 a0 a1 a2 b0 b1 b2
  obtain ⟨a0, a1, a2, _⟩ := K3.out
  obtain ⟨b0, b1, b2, _⟩ := K4.out
  go_upto_region 3 with fail
  clear a0 a1 a2 b0 b1 b2
  go_wp2
  go_loopw [5] (fun i wr => ∃ k : Nat, k ≤ t.p.length ∧ i = .int .i64 k ∧ Hid (Below w1.heap.size w1 wr)) (fun i _ => t.p.length - (intOf i).toNat)
  case atStart => exact ⟨0, by omega, rfl, Lib.hid (Below.refl _ _)⟩
  case round =>
    obtain ⟨k, hk, rfl, hbel⟩ := hrel
    have BR := Lib.hid (bnext B1.out hbel.out)
    obtain ⟨a0, a1, a2, _⟩ := K3.out.next hbel.out
    obtain ⟨b0, b1, b2, _⟩ := K4.out.next hbel.out
    by_cases hlt : k < t.p.length
    · obtain ⟨g, off, x, rfl, _, _, hx, q, rx⟩ := (P1.out.next BR.out).elem hlt
      obtain ⟨g', off', y, rfl, _, _, hy, q', ry⟩ := (P2.out.next BR.out).elem hlt
      rw [hx] at hy
      injection hy with hy
      obtain ⟨q0, q1, q2⟩ := q
      obtain ⟨p0, p1, p2⟩ := q'
      have C1 := Lib.hid (of_regrown (fun X hX => IH.out X f x y hy (Pd.next rx hX) (Pd.next ry hX)))
      clear rx ry hx hy
      have i0 : (0 : Int) ≤ (k : Int) := by omega
      have i2 : (k : Int) < (t.p.length : Int) := by omega
      have i4 : ((k : Int)).toNat = k := by omega
      go_upto_region 6 with fail
      replace a2 := cell_regrown a2
      replace b2 := cell_regrown b2
      replace q0 := cell_regrown q0
      replace q1 := cell_regrown q1
      replace q2 := cell_regrown q2
      replace p0 := cell_regrown p0
      replace p1 := cell_regrown p1
      replace p2 := cell_regrown p2
      refine wp_region_quiet_below (by kernel_rfl) (by kernel_rfl) ?_
      repeat (first | go_big_quiet_step (exact C1.out _ _) | quiet_step (exact C1.out _ _))
      refine wpQuiet_nil ?_
      intro _ hw'
      obtain ⟨⟨dq, osq⟩, hw''⟩ := hw'
      subst hw''
      have HB := Lib.hid (bnext hbel.out (below_regrown wr dq osq))
      clear q0 q1 q2 p0 p1 p2 a0 a1 a2 b0 b1 b2 i4
      go_wp2
      go_roundw
      case rel => exact ⟨k + 1, by omega, by go_num, HB⟩
      case measure => simp [intOf]; omega
    · go_wp2
      go_ret
      exact ⟨rfl, BR.out⟩
theorem sameP_any : ∀ d, SamePOk d
  | 0 => fun _ _ _ _ _ h => h.elim
  | d + 1 => sameP_succ d (sameP_any d)
end Go.Proofs.YtllkimdlmnjoiaaGreatDoor




