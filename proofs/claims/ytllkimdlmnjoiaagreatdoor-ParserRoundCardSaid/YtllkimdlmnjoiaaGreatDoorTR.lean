/- Carried over from an earlier seat. -/
import Derived.Test.YtllkimdlmnjoiaaGreatDoorPJ
import Derived.Test.YtllkimdlmnjoiaaGreatDoorTF
import Derived.Test.YtllkimdlmnjoiaaGreatDoorTM
namespace Go.Proofs.YtllkimdlmnjoiaaGreatDoor
set_option maxRecDepth 100000
set_option maxRecDepth 100000
set_option maxRecDepth 100000
open Go.RowKit Go.Sort

theorem refSame_regrownE {w : World} {da db : Nat} {a b : V} {A : Option Addr} {c : Nat} {A' : Option Addr} {c' : Nat} {D : Option Addr} {e : Nat} {D' : Option Addr} {e' : Nat}
    (ra : Rd w 0 w.heap.size da a A c A' c') (rb : Rd w 0 w.heap.size db b D e D' e') (z : Bool) (hz : eqV a b = z) (d : Nat) (os : Array Obj) :
    Calls Tryz.prog 45 #[vl a A c A' c', vl b D e D' e'] (grow (redrawn w d) os) fun x w'' => x = .returned (.bool z) ∧ ∃ p : Regrown, w'' = grow (redrawn w p.d) p.os := by
  have := refSame_regrown ra rb d os
  rw [← hz]
  exact this
set_option maxHeartbeats 3200000 in
/-- Two rows of values. -/
theorem sameRows_any (w : World) (d d' : Nat) (A : Option Addr) (c : Nat) (A' : Option Addr) (c' : Nat) (l m : List V) (h : Rw w 0 w.heap.size d A c l) (h' : Rw w 0 w.heap.size d' A' c' m) :
    Calls Tryz.prog 67 #[.slice A l.length c, .slice A' m.length c'] w fun e w' => e = .returned (.bool (eqL eqV l m)) ∧ Below w.heap.size w w' := by
  have H := Lib.hid h
  have H' := Lib.hid h'
  have hbig := h.big
  have hbig' := h'.big
  clear h h'
  by_cases hl : l.length = m.length
  · have e0 : ((l.length : Int) != (m.length : Int)) = false := by rw [hl]; simp
    have HL := Lib.hid hl
    clear hl
    go_enter Tryz.func67, Tryz.ntmps67
    go_wp2
    go_loopw [5] (fun i wr => ∃ k : Nat, k ≤ l.length ∧ i = .int .i64 k ∧ Hid (Below w.heap.size w wr) ∧ Hid (eqL eqV (l.drop k) (m.drop k) = eqL eqV l m)) (fun i _ => l.length - (intOf i).toNat)
    case atStart => exact ⟨0, by omega, rfl, Lib.hid (Below.refl _ _), Lib.hid (by simp)⟩
    case round =>
      obtain ⟨k, hk, rfl, hbel, hr⟩ := hrel
      by_cases hlt : k < l.length
      · have hltm : k < m.length := by have := HL.out; omega
        obtain ⟨b, off, x, A1, c1, A2, c2, rfl, _, hb, hx, q, rx⟩ := (H.out.next hbel.out).elem hlt
        obtain ⟨b', off', y, A3, c3, A4, c4, rfl, _, hb', hy, q', ry⟩ := (H'.out.next hbel.out).elem hltm
        have ST := Lib.hid (eqL_step eqV l m k hx hy)
        obtain ⟨q0, q1, q2, q3, q4⟩ := q
        obtain ⟨p0, p1, p2, p3, p4⟩ := q'
        obtain ⟨z, hz⟩ : ∃ z, eqV x y = z := ⟨_, rfl⟩
        have C1 := Lib.hid (fun d os => refSame_regrownE rx ry z hz d os)
        have HZ := Lib.hid hz
        clear rx ry hx hy hz
        have i0 : (0 : Int) ≤ (k : Int) := by omega
        have i2 : (k : Int) < (l.length : Int) := by omega
        have i3 : (k : Int) < (m.length : Int) := by omega
        have i4 : ((k : Int)).toNat = k := by omega
        replace q0 := cell_regrown q0
        replace q1 := cell_regrown q1
        replace q2 := cell_regrown q2
        replace q3 := cell_regrown q3
        replace q4 := cell_regrown q4
        replace p0 := cell_regrown p0
        replace p1 := cell_regrown p1
        replace p2 := cell_regrown p2
        replace p3 := cell_regrown p3
        replace p4 := cell_regrown p4
        go_wp2_with fail
        refine wp_region_quiet_below (by kernel_rfl) (by kernel_rfl) ?_
        repeat (first | go_big_quiet_step (exact C1.out _ _) | quiet_step (exact C1.out _ _))
        refine wpQuiet_nil ?_
        intro _ hw'
        obtain ⟨⟨dq, osq⟩, hw''⟩ := hw'
        subst hw''
        have HB := Lib.hid (bnext hbel.out (below_regrown wr dq osq))
        clear q0 q1 q2 q3 q4 p0 p1 p2 p3 p4 i4 C1
        cases z
        · have FIN := Lib.hid (show eqL eqV l m = false by rw [← hr.out, ST.out, HZ.out]; rfl)
          go_wp2
          go_ret
          exact ⟨by rw [FIN.out]; rfl, HB.out⟩
        · have NX := Lib.hid (show eqL eqV (l.drop (k + 1)) (m.drop (k + 1)) = eqL eqV l m by rw [← hr.out, ST.out, HZ.out]; rfl)
          go_wp2
          go_roundw
          case rel => exact ⟨k + 1, by omega, by go_num, HB, NX⟩
          case measure => simp [intOf]; omega
      · have FIN := Lib.hid (show eqL eqV l m = true by rw [← hr.out]; exact eqL_end _ _ _ _ (by omega) (by have := HL.out; omega))
        go_wp2
        go_ret
        exact ⟨by rw [FIN.out]; rfl, hbel.out⟩
  · have e0 : ((l.length : Int) != (m.length : Int)) = true := by simp; omega
    have FIN := Lib.hid (eqL_len eqV l m hl)
    go_enter Tryz.func67, Tryz.ntmps67
    go_wp2
    go_ret
    exact ⟨by rw [FIN.out]; rfl, Below.refl _ _⟩

/-- The same, part by part, so deep. -/
def sameF : Nat → P → P → Bool
  | 0, _, _ => true
  | d + 1, x, y => x.k == y.k && (eqL eqV x.v y.v && eqL (sameF d) x.p y.p)
def SameFOk (d : Nat) : Prop := ∀ (w : World) (d' : Nat) (x y : Pt), x.In w d → y.In w d' → Calls Tryz.prog 46 #[x.val, y.val] w fun e w' => e = .returned (.bool (sameF d x.t y.t)) ∧ Below w.heap.size w w'
set_option maxHeartbeats 6400000 in
theorem sameF_succ (d : Nat) (ih : SameFOk d) : SameFOk (d + 1) := by
  rintro w d' ⟨t, A, c, A', c'⟩ ⟨u, D, e, D', e'⟩ hx hy
  obtain ⟨f, rfl⟩ := hy.pos
  obtain ⟨n1, v1⟩ := hx.2.1
  obtain ⟨n2, v2⟩ := hy.2.1
  have V1 := Lib.hid (show Rw w 0 w.heap.size n1 A c t.v from v1)
  have V2 := Lib.hid (show Rw w 0 w.heap.size n2 D e u.v from v2)
  have P1 := Lib.hid (show Pw w 0 w.heap.size d A' c' t.p from hx.2.2)
  have P2 := Lib.hid (show Pw w 0 w.heap.size f D' e' u.p from hy.2.2)
  have IH := Lib.hid ih
  have hbig := P1.out.big
  have hbig' := P2.out.big
  have ALL := Lib.hid (show sameF (d + 1) t u = (t.k == u.k && (eqL eqV t.v u.v && eqL (sameF d) t.p u.p)) from rfl)
  show Calls Tryz.prog 46 #[.agg #[.int .i64 t.k, .slice A t.v.length c, .slice A' t.p.length c'], .agg #[.int .i64 u.k, .slice D u.v.length e, .slice D' u.p.length e']] w fun e w' => e = .returned (.bool (sameF (d + 1) t u)) ∧ Below w.heap.size w w'
  obtain ⟨ans, hans⟩ : ∃ b, b = sameF (d + 1) t u := ⟨_, rfl⟩
  rw [← hans] at ALL ⊢
  clear hx hy ih v1 v2 hans
  go_enter Tryz.func46, Tryz.ntmps46
  go_upto_region 1 with fail
  generalize hW : World.alloc (World.alloc _ _) _ = W
  obtain ⟨k1, k2, hz, hb⟩ := boxesPP w ⟨t, A, c, A', c'⟩ ⟨u, D, e, D', e'⟩ W hW
  have K1 := Lib.hid k1
  have K2 := Lib.hid k2
  have HB := Lib.hid hb
  obtain ⟨a0, a1, a2, _⟩ := k1
  obtain ⟨b0, b1, b2, _⟩ := k2
  clear hz hW hb
  by_cases hk : t.k = u.k
  case neg =>
    have e0 : (t.k != u.k) = true := by simpa using hk
    have h1 : (t.k == u.k) = false := by simpa using hk
    rw [h1] at ALL
    clear h1 hk
    go_wp2_with fail
    go_ret
    exact ⟨by rw [ALL.out]; rfl, HB.out⟩
  have e0 : (t.k != u.k) = false := by rw [hk]; simp
  have h1 : (t.k == u.k) = true := by rw [hk]; simp
  rw [h1] at ALL
  clear h1 hk
  have CT := Lib.hid (sameRows_any W n1 n2 A c D e t.v u.v (V1.out.next HB.out) (V2.out.next HB.out))
  generalize eqL eqV t.v u.v = c1 at *
  go_wp2_with fail
  refine CT.out.mono ?_
  rintro r w1 ⟨rfl, hb1⟩
  have B1 := Lib.hid (bnext HB.out hb1)
  have K3 := Lib.hid (K1.out.next hb1)
  have K4 := Lib.hid (K2.out.next hb1)
  clear hb1 a0 a1 a2 b0 b1 b2 CT
  obtain ⟨a0, a1, a2, _⟩ := K3.out
  obtain ⟨b0, b1, b2, _⟩ := K4.out
  cases c1
  case false =>
    go_wp2_with fail
    go_ret
    exact ⟨by rw [ALL.out]; rfl, B1.out⟩
  by_cases hl : t.p.length = u.p.length
  case neg =>
    have e1 : ((t.p.length : Int) != (u.p.length : Int)) = true := by simp; omega
    have FIN := Lib.hid (eqL_len (sameF d) t.p u.p hl)
    go_wp2_with fail
    go_ret
    exact ⟨by rw [ALL.out, FIN.out]; rfl, B1.out⟩
  have e1 : ((t.p.length : Int) != (u.p.length : Int)) = false := by rw [hl]; simp
  have HL := Lib.hid hl
  clear hl
  replace ALL := Lib.hid (show ans = eqL (sameF d) t.p u.p by rw [ALL.out]; rfl)
  go_upto_region 3 with fail
  clear a0 a1 a2 b0 b1 b2
  go_wp2
  go_loopw [5] (fun i wr => ∃ k : Nat, k ≤ t.p.length ∧ i = .int .i64 k ∧ Hid (Below w1.heap.size w1 wr) ∧ Hid (eqL (sameF d) (t.p.drop k) (u.p.drop k) = ans)) (fun i _ => t.p.length - (intOf i).toNat)
  case atStart => exact ⟨0, by omega, rfl, Lib.hid (Below.refl _ _), Lib.hid (by rw [ALL.out]; simp)⟩
  case round =>
    obtain ⟨k, hk, rfl, hbel, hr⟩ := hrel
    have BR := Lib.hid (bnext B1.out hbel.out)
    obtain ⟨a0, a1, a2, _⟩ := K3.out.next hbel.out
    obtain ⟨b0, b1, b2, _⟩ := K4.out.next hbel.out
    by_cases hlt : k < t.p.length
    · have hltm : k < u.p.length := by have := HL.out; omega
      obtain ⟨g, off, x, rfl, _, _, hx, q, rx⟩ := (P1.out.next BR.out).elem hlt
      obtain ⟨g', off', y, rfl, _, _, hy, q', ry⟩ := (P2.out.next BR.out).elem hltm
      have ST := Lib.hid (eqL_step (sameF d) t.p u.p k hx hy)
      obtain ⟨q0, q1, q2⟩ := q
      obtain ⟨p0, p1, p2⟩ := q'
      obtain ⟨z, hz⟩ : ∃ z, sameF d x.t y.t = z := ⟨_, rfl⟩
      have C1 := Lib.hid (of_regrown (fun X hX => (show Calls Tryz.prog 46 #[x.val, y.val] X fun e w' => e = .returned (.bool z) ∧ Below X.heap.size X w' from hz ▸ IH.out X f x y (Pd.next rx hX) (Pd.next ry hX))))
      have HZ := Lib.hid hz
      clear rx ry hx hy hz
      have i0 : (0 : Int) ≤ (k : Int) := by omega
      have i2 : (k : Int) < (t.p.length : Int) := by omega
      have i3 : (k : Int) < (u.p.length : Int) := by omega
      have i4 : ((k : Int)).toNat = k := by omega
      go_upto_region 6 with fail
      replace a2 := cell_regrown a2
      replace b2 := cell_regrown b2
      replace q0 := cell_regrown q0
      replace q1 := cell_regrown q1
      replace q2 := cell_regrown q2
      replace p0 := cell_regrown p0
      replace p1 := cell_regrown p1
      replace p2 := cell_regrown p2
      refine wp_region_quiet_below (by kernel_rfl) (by kernel_rfl) ?_
      repeat (first | go_big_quiet_step (exact C1.out _ _) | quiet_step (exact C1.out _ _))
      refine wpQuiet_nil ?_
      intro _ hw'
      obtain ⟨⟨dq, osq⟩, hw''⟩ := hw'
      subst hw''
      have HB := Lib.hid (bnext hbel.out (below_regrown wr dq osq))
      have HB1 := Lib.hid (bnext B1.out HB.out)
      clear q0 q1 q2 p0 p1 p2 a0 a1 a2 b0 b1 b2 i4 C1
      cases z
      · have FIN := Lib.hid (show ans = false by rw [← hr.out, ST.out, HZ.out]; rfl)
        go_wp2
        go_ret
        exact ⟨by rw [FIN.out]; rfl, HB1.out⟩
      · have NX := Lib.hid (show eqL (sameF d) (t.p.drop (k + 1)) (u.p.drop (k + 1)) = ans by rw [← hr.out, ST.out, HZ.out]; rfl)
        go_wp2
        go_roundw
        case rel => exact ⟨k + 1, by omega, by go_num, HB, NX⟩
        case measure => simp [intOf]; omega
    · have FIN := Lib.hid (show ans = true by rw [← hr.out]; exact eqL_end _ _ _ _ (by omega) (by have := HL.out; omega))
      go_wp2
      go_ret
      exact ⟨by rw [FIN.out]; rfl, BR.out⟩
theorem sameF_any : ∀ d, SameFOk d
  | 0 => fun _ _ _ _ h => h.elim
  | d + 1 => sameF_succ d (sameF_any d)
end Go.Proofs.YtllkimdlmnjoiaaGreatDoor

namespace Go.Proofs.YtllkimdlmnjoiaaGreatDoor
set_option maxRecDepth 100000
set_option maxRecDepth 100000
open Go.RowKit Go.Sort

theorem sameF_Q : ∀ n, sameF n = sameQ n
  | 0 => rfl
  | n + 1 => by funext x y; simp only [sameF, sameQ, sameF_Q n]
theorem hPs_le (d : Nat) : ∀ l : List P, (∀ x ∈ l, hP x ≤ d) → hPs l ≤ d
  | [], _ => Nat.zero_le _
  | x :: l, h => by
    have e : hPs (x :: l) = max (hP x) (hPs l) := rfl
    have h1 := h x (by simp)
    have h2 := hPs_le d l (fun y hy => h y (by simp [hy]))
    omega
theorem Pd.hP_le {w : World} {lo B : Nat} : ∀ (d : Nat) (t : P) (A : Option Addr) (c : Nat) (A' : Option Addr) (c' : Nat), Pd w lo B d t A c A' c' → hP t ≤ d
  | 0, _, _, _, _, _, h => h.elim
  | d + 1, t, _, _, _, _, h => by
    rw [hP_eq]
    have := hPs_le d t.p (fun x hx => by
      obtain ⟨j, hj⟩ := List.mem_iff_getElem?.1 hx
      obtain ⟨b, off, z, _, _, _, hz, _, hr⟩ := PRow.elem h.2.2 (List.getElem?_eq_some_iff.1 hj).1
      rw [hj] at hz
      injection hz with hz
      subst hz
      exact Pd.hP_le d _ _ _ _ _ hr)
    omega
theorem refSameP_any (w : World) (n m : Nat) (x y : Pt) (hx : x.In w n) (hy : y.In w m) : Calls Tryz.prog 46 #[x.val, y.val] w fun e w' => e = .returned (.bool (sameP x.t y.t)) ∧ Below w.heap.size w w' := by
  have := sameF_any n w m x y hx hy
  rw [sameF_Q, sameQ_top n (hP x.t) x.t y.t (Pd.hP_le n _ _ _ _ _ hx) (Nat.le_refl _)] at this
  exact this
theorem refSameV_any (w : World) (n m : Nat) (x y : At) (hx : x.In w n) (hy : y.In w m) : Calls Tryz.prog 45 #[x.v, y.v] w fun e w' => e = .returned (.bool (cmpV 12 x.t y.t == 0)) ∧ Below w.heap.size w w' := refSame_any w n m x.t y.t _ _ _ _ _ _ _ _ hx hy
theorem cellsG.next {w w' : World} {b o : Nat} {g : Gt} (h : cellsG w b o g) (hb : Below w.heap.size w w') (hl : b < w.heap.size) : cellsG w' b o g :=
  ⟨cell_below hb h.c0 hl, cell_below hb h.c1 hl, cell_below hb h.c2 hl, cell_below hb h.c3 hl, cell_below hb h.c4 hl, cell_below hb h.c5 hl, cell_below hb h.c6 hl, cell_below hb h.c7 hl, cell_below hb h.c8 hl, cell_below hb h.c9 hl, cell_below hb h.c10 hl⟩
def SameROk (r : Nat) : Prop := ∀ (w : World) (d : Nat) (A : Option Addr) (c : Nat) (l : List C) (A' : Option Addr) (c' : Nat) (m : List C), r ≤ 20 → Ch w 0 w.heap.size d A c l → Ch w 0 w.heap.size d A' c' m →
  Calls Tryz.prog 26 #[.slice A l.length c, .slice A' m.length c', .int .i64 (r : Int)] w fun e w' => e = .returned (.bool (sameC (r + 1) l m)) ∧ Below w.heap.size w w'
def rND : Nat → Tmp := fun j => [22, 23, 24, 25, 26, 27, 28, 29, 30, 31, 32, 33, 34, 35, 36, 37, 38, 39, 40, 41, 42, 43, 44, 45, 46, 47].getD j 0
def rNE : Nat → List Nat := fun j => [[], [], [0, 1], [2], [3], [], [], [5, 6], [7], [8], [4, 9], [10], [11], [11], [11, 12, 13], [11, 14], [11, 15], [11, 16], [11], [11], [11, 18, 19], [11, 20], [11, 21], [11, 22], [11, 17, 23], [11, 24]].getD j []
def rLD : Nat → Tmp := fun j => [22, 23, 24, 25, 26, 27, 28, 29, 30, 31, 32, 33, 34, 35, 36, 37, 38, 39, 40, 41, 42, 43, 44, 45, 46, 47].getD j 0
def rLE : Nat → List Nat := fun j => [[], [], [0, 1], [2], [3], [], [], [5, 6], [7], [8], [4, 9], [10], [11], [11], [11, 12, 13], [11, 14], [11, 15], [11, 16], [11], [11], [11, 18, 19], [11, 20], [11, 21], [11, 22], [11, 17, 23], [11, 24]].getD j []
def rSD : Nat → Tmp := fun j => [22, 23, 24, 25, 26, 27, 28, 29, 30, 31, 32, 33, 34, 35, 36, 37, 38, 39, 40, 41, 42, 43, 44, 45, 46, 47].getD j 0
def rSE : Nat → List Nat := fun j => [[], [], [0, 1], [2], [3], [], [], [5, 6], [7], [8], [4, 9], [10], [11], [11], [11, 12, 13], [11, 14], [11, 15], [11, 16], [11], [11], [11, 18, 19], [11, 20], [11, 21], [11, 22], [11, 17, 23], [11, 24]].getD j []
set_option maxHeartbeats 12800000 in
theorem sameR_step (r : Nat) (ih : ∀ s, r = s + 1 → SameROk s) : SameROk r := by
  intro w d A c l A' c' m hr20 hx hy
  have H := Lib.hid hx
  have H' := Lib.hid hy
  have hbig := hx.big
  have hbig' := hy.big
  have IH := Lib.hid ih
  have hr0 : (0 : Int) ≤ (r : Int) := by omega
  have hr1 : (r : Int) ≤ 20 := by omega
  show Calls Tryz.prog 26 #[.slice A l.length c, .slice A' m.length c', .int .i64 (r : Int)] w fun e w' => e = .returned (.bool (eqL (sameCl (sameC r)) l m)) ∧ Below w.heap.size w w'
  obtain ⟨ans, hans⟩ : ∃ b, b = eqL (sameCl (sameC r)) l m := ⟨_, rfl⟩
  rw [← hans]
  have ALL := Lib.hid hans
  clear hx hy ih hans
  by_cases hl : l.length = m.length
  case neg =>
    have e0 : ((l.length : Int) != (m.length : Int)) = true := by simp; omega
    have FIN := Lib.hid (eqL_len (sameCl (sameC r)) l m hl)
    go_enter Tryz.func26, Tryz.ntmps26
    go_wp2
    go_ret
    exact ⟨by rw [ALL.out, FIN.out]; rfl, Below.refl _ _⟩
  have e0 : ((l.length : Int) != (m.length : Int)) = false := by rw [hl]; simp
  have HL := Lib.hid hl
  clear hl
  go_enter Tryz.func26, Tryz.ntmps26
  go_wp2
  go_loopw [7] (fun i wr => ∃ k : Nat, k ≤ l.length ∧ i = .int .i64 k ∧ Hid (Below w.heap.size w wr) ∧ Hid (eqL (sameCl (sameC r)) (l.drop k) (m.drop k) = ans)) (fun i _ => l.length - (intOf i).toNat)
  case atStart => exact ⟨0, by omega, rfl, Lib.hid (Below.refl _ _), Lib.hid (by rw [ALL.out]; simp)⟩
  case round =>
    obtain ⟨k, hk, rfl, hbel, hr⟩ := hrel
    by_cases hlt : k < l.length
    case neg =>
      have FIN := Lib.hid (show ans = true by rw [← hr.out]; exact eqL_end _ _ _ _ (by omega) (by have := HL.out; omega))
      go_wp2
      go_ret
      exact ⟨by rw [FIN.out]; rfl, hbel.out⟩
    have hltm : k < m.length := by have := HL.out; omega
    obtain ⟨b, off, x, e, rfl, rfl, hb, hx, q, hn, ra⟩ := (H.out.next hbel.out).elem hlt
    obtain ⟨b', off', y, e', he, rfl, hb', hy, q', hn', ra'⟩ := (H'.out.next hbel.out).elem hltm
    obtain rfl : e = e' := by omega
    have ST := Lib.hid (eqL_step (sameCl (sameC r)) l m k hx hy)
    have Q0 := Lib.hid q.c0
    have Q1 := Lib.hid q.c1
    have P0 := Lib.hid q'.c0
    have P1 := Lib.hid q'.c1
    have HBB := Lib.hid hb
    have HBB1 := Lib.hid hb'
    have RA := Lib.hid ra
    have RA' := Lib.hid ra'
    have hbx := ra.big
    have hby := ra'.big
    have CL := Lib.hid (show sameCl (sameC r) x.t y.t = (x.n.toList == y.n.toList && eqL (sameA (sameC r)) x.l y.l) from rfl)
    clear ra ra' hx hy he q q' hb hb'
    have I0 := Lib.hid (show (0 : Int) ≤ (k : Int) by omega)
    have I2 := Lib.hid (show (k : Int) < (l.length : Int) by omega)
    have I3 := Lib.hid (show (k : Int) < (m.length : Int) by omega)
    go_upto_region 6 with fail
    obtain ⟨z, hz⟩ : ∃ z, (x.n.toList == y.n.toList) = z := ⟨_, rfl⟩
    have HZ := Lib.hid hz
    rw [hz] at CL
    clear hz
    cases z
    case false =>
      have FIN := Lib.hid (show ans = false by rw [← hr.out, ST.out, CL.out]; rfl)
      refine region_phase_all [0, 1, 2, 3, 4, 5, 6, 7, 8, 9, 10, 11, 12, 13, 14, 15, 16, 17, 18, 19, 20, 21, 22, 23, 24, 25] rND rNE (fun w' => Below wr.heap.size wr w') (saidOf [Is (.slice (some ⟨b, off, none⟩) l.length c), Is (.int .i64 (k : Int)), Is (.pointer (some ⟨b, off + k * 2, none⟩)), Is (.pointer (some ⟨b, off + k * 2, none⟩)), Is (.string x.n), Is (.slice (some ⟨b', off', none⟩) m.length c'), Is (.int .i64 (k : Int)), Is (.pointer (some ⟨b', off' + k * 2, none⟩)), Is (.pointer (some ⟨b', off' + k * 2, none⟩)), Is (.string y.n), Is (.bool true), Is (.bool true), Is undef, Is undef, Is undef, Is undef, Is undef, Is undef, Is undef, Is undef, Is undef, Is undef, Is undef, Is undef, Is undef, Is (.bool true)]) 114 (by rfl) (by kernel_rfl) (by kernel_rfl) (by kernel_rfl) (fun _ _ h hb => bnext h hb) (stays_said _ (stays_cons (Is.stays _) (stays_cons (Is.stays _) (stays_cons (Is.stays _) (stays_cons (Is.stays _) (stays_cons (Is.stays _) (stays_cons (Is.stays _) (stays_cons (Is.stays _) (stays_cons (Is.stays _) (stays_cons (Is.stays _) (stays_cons (Is.stays _) (stays_cons (Is.stays _) (stays_cons (Is.stays _) (stays_cons (Is.stays _) (stays_cons (Is.stays _) (stays_cons (Is.stays _) (stays_cons (Is.stays _) (stays_cons (Is.stays _) (stays_cons (Is.stays _) (stays_cons (Is.stays _) (stays_cons (Is.stays _) (stays_cons (Is.stays _) (stays_cons (Is.stays _) (stays_cons (Is.stays _) (stays_cons (Is.stays _) (stays_cons (Is.stays _) (stays_cons (Is.stays _) stays_nil))))))))))))))))))))))))))) (below_drewN _ _ 1) (by kernel_rfl) ?_ ?_
      · skip
        refine owes_cons (Owes.mk (o := ({ dst := some 22, op := .move (.tmp 0), type := 22, pos := "ref.go:167", after := #[], guard := none } : Oper)) rfl (fun v wk hj hD K hK => ?_)) ?_
        · simp only [rND, rNE, putAll, Act.put, List.getD_cons_zero, List.setIfInBounds_toArray, List.set_cons_zero, List.set_cons_succ] at hK ⊢
          go_simp
          exact hK.out _ _ (Below.refl _ _) rfl
        refine owes_cons (Owes.mk (o := ({ dst := some 23, op := .move (.tmp 7), type := 3, pos := "ref.go:167", after := #[], guard := none } : Oper)) rfl (fun v wk hj hD K hK => ?_)) ?_
        · simp only [rND, rNE, putAll, Act.put, List.getD_cons_succ, List.getD_cons_zero, List.setIfInBounds_toArray, List.set_cons_zero, List.set_cons_succ] at hK ⊢
          go_simp
          exact hK.out _ _ (Below.refl _ _) rfl
        refine owes_cons (Owes.mk (o := ({ dst := some 24, op := .indexAddr 22 (.tmp 22) (.tmp 23), type := 0, pos := "ref.go:167", after := #[{ on := 0, ground := .data }, { on := 1, ground := .data }], guard := none } : Oper)) rfl (fun v wk hj hD K hK => ?_)) ?_
        · have h0 : v 0 = (.slice (some ⟨b, off, none⟩) l.length c) := hD 0 (by decide)
          have h1 : v 1 = (.int .i64 (k : Int)) := hD 1 (by decide)
          simp only [rND, rNE, putAll, Act.put, List.getD_cons_succ, List.getD_cons_zero, List.setIfInBounds_toArray, List.set_cons_zero, List.set_cons_succ, h0, h1] at hK ⊢
          have i4 := I2.out
          have i5 := I0.out
          go_simp
          exact hK.out _ _ (Below.refl _ _) rfl
        refine owes_cons (Owes.mk (o := ({ dst := some 25, op := .fieldAddr 74 (.tmp 24) 0, type := 0, pos := "ref.go:167", after := #[{ on := 2, ground := .data }], guard := none } : Oper)) rfl (fun v wk hj hD K hK => ?_)) ?_
        · have h2 : v 2 = (.pointer (some ⟨b, off + k * 2, none⟩)) := hD 2 (by decide)
          simp only [rND, rNE, putAll, Act.put, List.getD_cons_succ, List.getD_cons_zero, List.setIfInBounds_toArray, List.set_cons_zero, List.set_cons_succ, h2] at hK ⊢
          go_simp
          exact hK.out _ _ (Below.refl _ _) rfl
        refine owes_cons (Owes.mk (o := ({ dst := some 26, op := .load 9 (.tmp 25), type := 9, pos := "ref.go:167", after := #[{ on := 3, ground := .data }], guard := none } : Oper)) rfl (fun v wk hj hD K hK => ?_)) ?_
        · have h3 : v 3 = (.pointer (some ⟨b, off + k * 2, none⟩)) := hD 3 (by decide)
          simp only [rND, rNE, putAll, Act.put, List.getD_cons_succ, List.getD_cons_zero, List.setIfInBounds_toArray, List.set_cons_zero, List.set_cons_succ, h3] at hK ⊢
          have a0 := cell_below hj Q0.out HBB.out
          go_simp
          exact hK.out _ _ (Below.refl _ _) rfl
        refine owes_cons (Owes.mk (o := ({ dst := some 27, op := .move (.tmp 1), type := 22, pos := "ref.go:167", after := #[], guard := none } : Oper)) rfl (fun v wk hj hD K hK => ?_)) ?_
        · simp only [rND, rNE, putAll, Act.put, List.getD_cons_succ, List.getD_cons_zero, List.setIfInBounds_toArray, List.set_cons_zero, List.set_cons_succ] at hK ⊢
          go_simp
          exact hK.out _ _ (Below.refl _ _) rfl
        refine owes_cons (Owes.mk (o := ({ dst := some 28, op := .move (.tmp 7), type := 3, pos := "ref.go:167", after := #[], guard := none } : Oper)) rfl (fun v wk hj hD K hK => ?_)) ?_
        · simp only [rND, rNE, putAll, Act.put, List.getD_cons_succ, List.getD_cons_zero, List.setIfInBounds_toArray, List.set_cons_zero, List.set_cons_succ] at hK ⊢
          go_simp
          exact hK.out _ _ (Below.refl _ _) rfl
        refine owes_cons (Owes.mk (o := ({ dst := some 29, op := .indexAddr 22 (.tmp 27) (.tmp 28), type := 0, pos := "ref.go:167", after := #[{ on := 5, ground := .data }, { on := 6, ground := .data }], guard := none } : Oper)) rfl (fun v wk hj hD K hK => ?_)) ?_
        · have h5 : v 5 = (.slice (some ⟨b', off', none⟩) m.length c') := hD 5 (by decide)
          have h6 : v 6 = (.int .i64 (k : Int)) := hD 6 (by decide)
          simp only [rND, rNE, putAll, Act.put, List.getD_cons_succ, List.getD_cons_zero, List.setIfInBounds_toArray, List.set_cons_zero, List.set_cons_succ, h5, h6] at hK ⊢
          have i4 := I3.out
          have i5 := I0.out
          go_simp
          exact hK.out _ _ (Below.refl _ _) rfl
        refine owes_cons (Owes.mk (o := ({ dst := some 30, op := .fieldAddr 74 (.tmp 29) 0, type := 0, pos := "ref.go:167", after := #[{ on := 7, ground := .data }], guard := none } : Oper)) rfl (fun v wk hj hD K hK => ?_)) ?_
        · have h7 : v 7 = (.pointer (some ⟨b', off' + k * 2, none⟩)) := hD 7 (by decide)
          simp only [rND, rNE, putAll, Act.put, List.getD_cons_succ, List.getD_cons_zero, List.setIfInBounds_toArray, List.set_cons_zero, List.set_cons_succ, h7] at hK ⊢
          go_simp
          exact hK.out _ _ (Below.refl _ _) rfl
        refine owes_cons (Owes.mk (o := ({ dst := some 31, op := .load 9 (.tmp 30), type := 9, pos := "ref.go:167", after := #[{ on := 8, ground := .data }], guard := none } : Oper)) rfl (fun v wk hj hD K hK => ?_)) ?_
        · have h8 : v 8 = (.pointer (some ⟨b', off' + k * 2, none⟩)) := hD 8 (by decide)
          simp only [rND, rNE, putAll, Act.put, List.getD_cons_succ, List.getD_cons_zero, List.setIfInBounds_toArray, List.set_cons_zero, List.set_cons_succ, h8] at hK ⊢
          have a0 := cell_below hj P0.out HBB1.out
          go_simp
          exact hK.out _ _ (Below.refl _ _) rfl
        refine owes_cons (Owes.mk (o := ({ dst := some 32, op := .binOp .neq 9 (.tmp 26) (.tmp 31) 9, type := 4, pos := "ref.go:167", after := #[{ on := 4, ground := .data }, { on := 9, ground := .data }], guard := none } : Oper)) rfl (fun v wk hj hD K hK => ?_)) ?_
        · have h4 : v 4 = (.string x.n) := hD 4 (by decide)
          have h9 : v 9 = (.string y.n) := hD 9 (by decide)
          simp only [rND, rNE, putAll, Act.put, List.getD_cons_succ, List.getD_cons_zero, List.setIfInBounds_toArray, List.set_cons_zero, List.set_cons_succ, h4, h9] at hK ⊢
          go_simp
          exact hK.out _ _ (Below.refl _ _) (show Value.bool _ = _ by simp only [HZ.out]; rfl)
        refine owes_cons (Owes.mk (o := ({ dst := some 33, op := .move (.tmp 32), type := 4, pos := "ref.go:167", after := #[{ on := 10, ground := .data }], guard := none } : Oper)) rfl (fun v wk hj hD K hK => ?_)) ?_
        · have h10 : v 10 = (.bool true) := hD 10 (by decide)
          simp only [rND, rNE, putAll, Act.put, List.getD_cons_succ, List.getD_cons_zero, List.setIfInBounds_toArray, List.set_cons_zero, List.set_cons_succ, h10] at hK ⊢
          go_simp
          exact hK.out _ _ (Below.refl _ _) rfl
        refine owes_cons (Owes.mk (o := ({ dst := some 34, op := .move (.tmp 0), type := 22, pos := "ref.go:167", after := #[{ on := 11, ground := .guard }], guard := some (11, false) } : Oper)) rfl (fun v wk hj hD K hK => ?_)) ?_
        · have h11 : v 11 = (.bool true) := hD 11 (by decide)
          simp only [rND, rNE, putAll, Act.put, List.getD_cons_succ, List.getD_cons_zero, List.setIfInBounds_toArray, List.set_cons_zero, List.set_cons_succ, h11] at hK ⊢
          go_simp
          exact hK.out _ _ (Below.refl _ _) rfl
        refine owes_cons (Owes.mk (o := ({ dst := some 35, op := .move (.tmp 7), type := 3, pos := "ref.go:167", after := #[{ on := 11, ground := .guard }], guard := some (11, false) } : Oper)) rfl (fun v wk hj hD K hK => ?_)) ?_
        · have h11 : v 11 = (.bool true) := hD 11 (by decide)
          simp only [rND, rNE, putAll, Act.put, List.getD_cons_succ, List.getD_cons_zero, List.setIfInBounds_toArray, List.set_cons_zero, List.set_cons_succ, h11] at hK ⊢
          go_simp
          exact hK.out _ _ (Below.refl _ _) rfl
        refine owes_cons (Owes.mk (o := ({ dst := some 36, op := .indexAddr 22 (.tmp 34) (.tmp 35), type := 0, pos := "ref.go:167", after := #[{ on := 12, ground := .data }, { on := 13, ground := .data }, { on := 11, ground := .guard }], guard := some (11, false) } : Oper)) rfl (fun v wk hj hD K hK => ?_)) ?_
        · have h11 : v 11 = (.bool true) := hD 11 (by decide)
          have h12 : v 12 = undef := hD 12 (by decide)
          have h13 : v 13 = undef := hD 13 (by decide)
          simp only [rND, rNE, putAll, Act.put, List.getD_cons_succ, List.getD_cons_zero, List.setIfInBounds_toArray, List.set_cons_zero, List.set_cons_succ, h11, h12, h13] at hK ⊢
          go_simp
          exact hK.out _ _ (Below.refl _ _) rfl
        refine owes_cons (Owes.mk (o := ({ dst := some 37, op := .fieldAddr 74 (.tmp 36) 1, type := 0, pos := "ref.go:167", after := #[{ on := 14, ground := .data }, { on := 11, ground := .guard }], guard := some (11, false) } : Oper)) rfl (fun v wk hj hD K hK => ?_)) ?_
        · have h11 : v 11 = (.bool true) := hD 11 (by decide)
          have h14 : v 14 = undef := hD 14 (by decide)
          simp only [rND, rNE, putAll, Act.put, List.getD_cons_succ, List.getD_cons_zero, List.setIfInBounds_toArray, List.set_cons_zero, List.set_cons_succ, h11, h14] at hK ⊢
          go_simp
          exact hK.out _ _ (Below.refl _ _) rfl
        refine owes_cons (Owes.mk (o := ({ dst := some 38, op := .load 72 (.tmp 37), type := 72, pos := "ref.go:167", after := #[{ on := 15, ground := .data }, { on := 11, ground := .guard }], guard := some (11, false) } : Oper)) rfl (fun v wk hj hD K hK => ?_)) ?_
        · have h11 : v 11 = (.bool true) := hD 11 (by decide)
          have h15 : v 15 = undef := hD 15 (by decide)
          simp only [rND, rNE, putAll, Act.put, List.getD_cons_succ, List.getD_cons_zero, List.setIfInBounds_toArray, List.set_cons_zero, List.set_cons_succ, h11, h15] at hK ⊢
          go_simp
          exact hK.out _ _ (Below.refl _ _) rfl
        refine owes_cons (Owes.mk (o := ({ dst := some 39, op := .call { callee := .builtin .len, args := #[.tmp 38], argTypes := #[72] }, type := 3, pos := "ref.go:167", after := #[{ on := 16, ground := .data }, { on := 11, ground := .guard }], guard := some (11, false) } : Oper)) rfl (fun v wk hj hD K hK => ?_)) ?_
        · have h11 : v 11 = (.bool true) := hD 11 (by decide)
          have h16 : v 16 = undef := hD 16 (by decide)
          simp only [rND, rNE, putAll, Act.put, List.getD_cons_succ, List.getD_cons_zero, List.setIfInBounds_toArray, List.set_cons_zero, List.set_cons_succ, h11, h16] at hK ⊢
          go_simp
          exact hK.out _ _ (Below.refl _ _) rfl
        refine owes_cons (Owes.mk (o := ({ dst := some 40, op := .move (.tmp 1), type := 22, pos := "ref.go:167", after := #[{ on := 11, ground := .guard }], guard := some (11, false) } : Oper)) rfl (fun v wk hj hD K hK => ?_)) ?_
        · have h11 : v 11 = (.bool true) := hD 11 (by decide)
          simp only [rND, rNE, putAll, Act.put, List.getD_cons_succ, List.getD_cons_zero, List.setIfInBounds_toArray, List.set_cons_zero, List.set_cons_succ, h11] at hK ⊢
          go_simp
          exact hK.out _ _ (Below.refl _ _) rfl
        refine owes_cons (Owes.mk (o := ({ dst := some 41, op := .move (.tmp 7), type := 3, pos := "ref.go:167", after := #[{ on := 11, ground := .guard }], guard := some (11, false) } : Oper)) rfl (fun v wk hj hD K hK => ?_)) ?_
        · have h11 : v 11 = (.bool true) := hD 11 (by decide)
          simp only [rND, rNE, putAll, Act.put, List.getD_cons_succ, List.getD_cons_zero, List.setIfInBounds_toArray, List.set_cons_zero, List.set_cons_succ, h11] at hK ⊢
          go_simp
          exact hK.out _ _ (Below.refl _ _) rfl
        refine owes_cons (Owes.mk (o := ({ dst := some 42, op := .indexAddr 22 (.tmp 40) (.tmp 41), type := 0, pos := "ref.go:167", after := #[{ on := 18, ground := .data }, { on := 19, ground := .data }, { on := 11, ground := .guard }], guard := some (11, false) } : Oper)) rfl (fun v wk hj hD K hK => ?_)) ?_
        · have h11 : v 11 = (.bool true) := hD 11 (by decide)
          have h18 : v 18 = undef := hD 18 (by decide)
          have h19 : v 19 = undef := hD 19 (by decide)
          simp only [rND, rNE, putAll, Act.put, List.getD_cons_succ, List.getD_cons_zero, List.setIfInBounds_toArray, List.set_cons_zero, List.set_cons_succ, h11, h18, h19] at hK ⊢
          go_simp
          exact hK.out _ _ (Below.refl _ _) rfl
        refine owes_cons (Owes.mk (o := ({ dst := some 43, op := .fieldAddr 74 (.tmp 42) 1, type := 0, pos := "ref.go:167", after := #[{ on := 20, ground := .data }, { on := 11, ground := .guard }], guard := some (11, false) } : Oper)) rfl (fun v wk hj hD K hK => ?_)) ?_
        · have h11 : v 11 = (.bool true) := hD 11 (by decide)
          have h20 : v 20 = undef := hD 20 (by decide)
          simp only [rND, rNE, putAll, Act.put, List.getD_cons_succ, List.getD_cons_zero, List.setIfInBounds_toArray, List.set_cons_zero, List.set_cons_succ, h11, h20] at hK ⊢
          go_simp
          exact hK.out _ _ (Below.refl _ _) rfl
        refine owes_cons (Owes.mk (o := ({ dst := some 44, op := .load 72 (.tmp 43), type := 72, pos := "ref.go:167", after := #[{ on := 21, ground := .data }, { on := 11, ground := .guard }], guard := some (11, false) } : Oper)) rfl (fun v wk hj hD K hK => ?_)) ?_
        · have h11 : v 11 = (.bool true) := hD 11 (by decide)
          have h21 : v 21 = undef := hD 21 (by decide)
          simp only [rND, rNE, putAll, Act.put, List.getD_cons_succ, List.getD_cons_zero, List.setIfInBounds_toArray, List.set_cons_zero, List.set_cons_succ, h11, h21] at hK ⊢
          go_simp
          exact hK.out _ _ (Below.refl _ _) rfl
        refine owes_cons (Owes.mk (o := ({ dst := some 45, op := .call { callee := .builtin .len, args := #[.tmp 44], argTypes := #[72] }, type := 3, pos := "ref.go:167", after := #[{ on := 22, ground := .data }, { on := 11, ground := .guard }], guard := some (11, false) } : Oper)) rfl (fun v wk hj hD K hK => ?_)) ?_
        · have h11 : v 11 = (.bool true) := hD 11 (by decide)
          have h22 : v 22 = undef := hD 22 (by decide)
          simp only [rND, rNE, putAll, Act.put, List.getD_cons_succ, List.getD_cons_zero, List.setIfInBounds_toArray, List.set_cons_zero, List.set_cons_succ, h11, h22] at hK ⊢
          go_simp
          exact hK.out _ _ (Below.refl _ _) rfl
        refine owes_cons (Owes.mk (o := ({ dst := some 46, op := .binOp .neq 3 (.tmp 39) (.tmp 45) 3, type := 4, pos := "ref.go:167", after := #[{ on := 17, ground := .data }, { on := 23, ground := .data }, { on := 11, ground := .guard }], guard := some (11, false) } : Oper)) rfl (fun v wk hj hD K hK => ?_)) ?_
        · have h11 : v 11 = (.bool true) := hD 11 (by decide)
          have h17 : v 17 = undef := hD 17 (by decide)
          have h23 : v 23 = undef := hD 23 (by decide)
          simp only [rND, rNE, putAll, Act.put, List.getD_cons_succ, List.getD_cons_zero, List.setIfInBounds_toArray, List.set_cons_zero, List.set_cons_succ, h11, h17, h23] at hK ⊢
          go_simp
          exact hK.out _ _ (Below.refl _ _) rfl
        refine owes_cons (Owes.mk (o := ({ dst := some 47, op := .pick (.tmp 33) (.const (.bool true)) (.tmp 46), type := 4, pos := "ref.go:167", after := #[{ on := 11, ground := .data }, { on := 24, ground := .data }], guard := none } : Oper)) rfl (fun v wk hj hD K hK => ?_)) ?_
        · have h11 : v 11 = (.bool true) := hD 11 (by decide)
          have h24 : v 24 = undef := hD 24 (by decide)
          simp only [rND, rNE, putAll, Act.put, List.getD_cons_succ, List.getD_cons_zero, List.setIfInBounds_toArray, List.set_cons_zero, List.set_cons_succ, h11, h24] at hK ⊢
          go_simp
          exact hK.out _ _ (Below.refl _ _) rfl
        exact owes_nil
      · intro v wf hj hr
        have hl : v 25 = (.bool true) := hr 25 (by decide)
        simp only [rND, putAll, Act.put, List.getD_cons_succ, List.getD_cons_zero, List.setIfInBounds_toArray, List.set_cons_zero, List.set_cons_succ, hl]
        have HJ := Lib.hid (bnext hbel.out hj)
        have HJ0 := Lib.hid hj
        clear hl hr hj
        go_wp2
        go_ret
        exact ⟨by rw [FIN.out]; rfl, HJ.out⟩
    by_cases hl2 : x.l.length = y.l.length
    case neg =>
      have FIN := Lib.hid (show ans = false by rw [← hr.out, ST.out, CL.out, eqL_len _ _ _ hl2]; rfl)
      have HL2 := Lib.hid (show ((x.l.length : Int) != (y.l.length : Int)) = true by simp; omega)
      clear hl2
      refine region_phase_all [0, 1, 2, 3, 4, 5, 6, 7, 8, 9, 10, 11, 12, 13, 14, 15, 16, 17, 18, 19, 20, 21, 22, 23, 24, 25] rLD rLE (fun w' => Below wr.heap.size wr w') (saidOf [Is (.slice (some ⟨b, off, none⟩) l.length c), Is (.int .i64 (k : Int)), Is (.pointer (some ⟨b, off + k * 2, none⟩)), Is (.pointer (some ⟨b, off + k * 2, none⟩)), Is (.string x.n), Is (.slice (some ⟨b', off', none⟩) m.length c'), Is (.int .i64 (k : Int)), Is (.pointer (some ⟨b', off' + k * 2, none⟩)), Is (.pointer (some ⟨b', off' + k * 2, none⟩)), Is (.string y.n), Is (.bool false), Is (.bool false), Is (.slice (some ⟨b, off, none⟩) l.length c), Is (.int .i64 (k : Int)), Is (.pointer (some ⟨b, off + k * 2, none⟩)), Is (.pointer (some ⟨b, off + k * 2 + 1, none⟩)), Is (.slice x.A x.l.length x.c), Is (.int .i64 (x.l.length : Int)), Is (.slice (some ⟨b', off', none⟩) m.length c'), Is (.int .i64 (k : Int)), Is (.pointer (some ⟨b', off' + k * 2, none⟩)), Is (.pointer (some ⟨b', off' + k * 2 + 1, none⟩)), Is (.slice y.A y.l.length y.c), Is (.int .i64 (y.l.length : Int)), Is (.bool true), Is (.bool true)]) 114 (by rfl) (by kernel_rfl) (by kernel_rfl) (by kernel_rfl) (fun _ _ h hb => bnext h hb) (stays_said _ (stays_cons (Is.stays _) (stays_cons (Is.stays _) (stays_cons (Is.stays _) (stays_cons (Is.stays _) (stays_cons (Is.stays _) (stays_cons (Is.stays _) (stays_cons (Is.stays _) (stays_cons (Is.stays _) (stays_cons (Is.stays _) (stays_cons (Is.stays _) (stays_cons (Is.stays _) (stays_cons (Is.stays _) (stays_cons (Is.stays _) (stays_cons (Is.stays _) (stays_cons (Is.stays _) (stays_cons (Is.stays _) (stays_cons (Is.stays _) (stays_cons (Is.stays _) (stays_cons (Is.stays _) (stays_cons (Is.stays _) (stays_cons (Is.stays _) (stays_cons (Is.stays _) (stays_cons (Is.stays _) (stays_cons (Is.stays _) (stays_cons (Is.stays _) (stays_cons (Is.stays _) stays_nil))))))))))))))))))))))))))) (below_drewN _ _ 1) (by kernel_rfl) ?_ ?_
      · skip
        refine owes_cons (Owes.mk (o := ({ dst := some 22, op := .move (.tmp 0), type := 22, pos := "ref.go:167", after := #[], guard := none } : Oper)) rfl (fun v wk hj hD K hK => ?_)) ?_
        · simp only [rLD, rLE, putAll, Act.put, List.getD_cons_zero, List.setIfInBounds_toArray, List.set_cons_zero, List.set_cons_succ] at hK ⊢
          go_simp
          exact hK.out _ _ (Below.refl _ _) rfl
        refine owes_cons (Owes.mk (o := ({ dst := some 23, op := .move (.tmp 7), type := 3, pos := "ref.go:167", after := #[], guard := none } : Oper)) rfl (fun v wk hj hD K hK => ?_)) ?_
        · simp only [rLD, rLE, putAll, Act.put, List.getD_cons_succ, List.getD_cons_zero, List.setIfInBounds_toArray, List.set_cons_zero, List.set_cons_succ] at hK ⊢
          go_simp
          exact hK.out _ _ (Below.refl _ _) rfl
        refine owes_cons (Owes.mk (o := ({ dst := some 24, op := .indexAddr 22 (.tmp 22) (.tmp 23), type := 0, pos := "ref.go:167", after := #[{ on := 0, ground := .data }, { on := 1, ground := .data }], guard := none } : Oper)) rfl (fun v wk hj hD K hK => ?_)) ?_
        · have h0 : v 0 = (.slice (some ⟨b, off, none⟩) l.length c) := hD 0 (by decide)
          have h1 : v 1 = (.int .i64 (k : Int)) := hD 1 (by decide)
          simp only [rLD, rLE, putAll, Act.put, List.getD_cons_succ, List.getD_cons_zero, List.setIfInBounds_toArray, List.set_cons_zero, List.set_cons_succ, h0, h1] at hK ⊢
          have i4 := I2.out
          have i5 := I0.out
          go_simp
          exact hK.out _ _ (Below.refl _ _) rfl
        refine owes_cons (Owes.mk (o := ({ dst := some 25, op := .fieldAddr 74 (.tmp 24) 0, type := 0, pos := "ref.go:167", after := #[{ on := 2, ground := .data }], guard := none } : Oper)) rfl (fun v wk hj hD K hK => ?_)) ?_
        · have h2 : v 2 = (.pointer (some ⟨b, off + k * 2, none⟩)) := hD 2 (by decide)
          simp only [rLD, rLE, putAll, Act.put, List.getD_cons_succ, List.getD_cons_zero, List.setIfInBounds_toArray, List.set_cons_zero, List.set_cons_succ, h2] at hK ⊢
          go_simp
          exact hK.out _ _ (Below.refl _ _) rfl
        refine owes_cons (Owes.mk (o := ({ dst := some 26, op := .load 9 (.tmp 25), type := 9, pos := "ref.go:167", after := #[{ on := 3, ground := .data }], guard := none } : Oper)) rfl (fun v wk hj hD K hK => ?_)) ?_
        · have h3 : v 3 = (.pointer (some ⟨b, off + k * 2, none⟩)) := hD 3 (by decide)
          simp only [rLD, rLE, putAll, Act.put, List.getD_cons_succ, List.getD_cons_zero, List.setIfInBounds_toArray, List.set_cons_zero, List.set_cons_succ, h3] at hK ⊢
          have a0 := cell_below hj Q0.out HBB.out
          go_simp
          exact hK.out _ _ (Below.refl _ _) rfl
        refine owes_cons (Owes.mk (o := ({ dst := some 27, op := .move (.tmp 1), type := 22, pos := "ref.go:167", after := #[], guard := none } : Oper)) rfl (fun v wk hj hD K hK => ?_)) ?_
        · simp only [rLD, rLE, putAll, Act.put, List.getD_cons_succ, List.getD_cons_zero, List.setIfInBounds_toArray, List.set_cons_zero, List.set_cons_succ] at hK ⊢
          go_simp
          exact hK.out _ _ (Below.refl _ _) rfl
        refine owes_cons (Owes.mk (o := ({ dst := some 28, op := .move (.tmp 7), type := 3, pos := "ref.go:167", after := #[], guard := none } : Oper)) rfl (fun v wk hj hD K hK => ?_)) ?_
        · simp only [rLD, rLE, putAll, Act.put, List.getD_cons_succ, List.getD_cons_zero, List.setIfInBounds_toArray, List.set_cons_zero, List.set_cons_succ] at hK ⊢
          go_simp
          exact hK.out _ _ (Below.refl _ _) rfl
        refine owes_cons (Owes.mk (o := ({ dst := some 29, op := .indexAddr 22 (.tmp 27) (.tmp 28), type := 0, pos := "ref.go:167", after := #[{ on := 5, ground := .data }, { on := 6, ground := .data }], guard := none } : Oper)) rfl (fun v wk hj hD K hK => ?_)) ?_
        · have h5 : v 5 = (.slice (some ⟨b', off', none⟩) m.length c') := hD 5 (by decide)
          have h6 : v 6 = (.int .i64 (k : Int)) := hD 6 (by decide)
          simp only [rLD, rLE, putAll, Act.put, List.getD_cons_succ, List.getD_cons_zero, List.setIfInBounds_toArray, List.set_cons_zero, List.set_cons_succ, h5, h6] at hK ⊢
          have i4 := I3.out
          have i5 := I0.out
          go_simp
          exact hK.out _ _ (Below.refl _ _) rfl
        refine owes_cons (Owes.mk (o := ({ dst := some 30, op := .fieldAddr 74 (.tmp 29) 0, type := 0, pos := "ref.go:167", after := #[{ on := 7, ground := .data }], guard := none } : Oper)) rfl (fun v wk hj hD K hK => ?_)) ?_
        · have h7 : v 7 = (.pointer (some ⟨b', off' + k * 2, none⟩)) := hD 7 (by decide)
          simp only [rLD, rLE, putAll, Act.put, List.getD_cons_succ, List.getD_cons_zero, List.setIfInBounds_toArray, List.set_cons_zero, List.set_cons_succ, h7] at hK ⊢
          go_simp
          exact hK.out _ _ (Below.refl _ _) rfl
        refine owes_cons (Owes.mk (o := ({ dst := some 31, op := .load 9 (.tmp 30), type := 9, pos := "ref.go:167", after := #[{ on := 8, ground := .data }], guard := none } : Oper)) rfl (fun v wk hj hD K hK => ?_)) ?_
        · have h8 : v 8 = (.pointer (some ⟨b', off' + k * 2, none⟩)) := hD 8 (by decide)
          simp only [rLD, rLE, putAll, Act.put, List.getD_cons_succ, List.getD_cons_zero, List.setIfInBounds_toArray, List.set_cons_zero, List.set_cons_succ, h8] at hK ⊢
          have a0 := cell_below hj P0.out HBB1.out
          go_simp
          exact hK.out _ _ (Below.refl _ _) rfl
        refine owes_cons (Owes.mk (o := ({ dst := some 32, op := .binOp .neq 9 (.tmp 26) (.tmp 31) 9, type := 4, pos := "ref.go:167", after := #[{ on := 4, ground := .data }, { on := 9, ground := .data }], guard := none } : Oper)) rfl (fun v wk hj hD K hK => ?_)) ?_
        · have h4 : v 4 = (.string x.n) := hD 4 (by decide)
          have h9 : v 9 = (.string y.n) := hD 9 (by decide)
          simp only [rLD, rLE, putAll, Act.put, List.getD_cons_succ, List.getD_cons_zero, List.setIfInBounds_toArray, List.set_cons_zero, List.set_cons_succ, h4, h9] at hK ⊢
          go_simp
          exact hK.out _ _ (Below.refl _ _) (show Value.bool _ = _ by simp only [HZ.out]; rfl)
        refine owes_cons (Owes.mk (o := ({ dst := some 33, op := .move (.tmp 32), type := 4, pos := "ref.go:167", after := #[{ on := 10, ground := .data }], guard := none } : Oper)) rfl (fun v wk hj hD K hK => ?_)) ?_
        · have h10 : v 10 = (.bool false) := hD 10 (by decide)
          simp only [rLD, rLE, putAll, Act.put, List.getD_cons_succ, List.getD_cons_zero, List.setIfInBounds_toArray, List.set_cons_zero, List.set_cons_succ, h10] at hK ⊢
          go_simp
          exact hK.out _ _ (Below.refl _ _) rfl
        refine owes_cons (Owes.mk (o := ({ dst := some 34, op := .move (.tmp 0), type := 22, pos := "ref.go:167", after := #[{ on := 11, ground := .guard }], guard := some (11, false) } : Oper)) rfl (fun v wk hj hD K hK => ?_)) ?_
        · have h11 : v 11 = (.bool false) := hD 11 (by decide)
          simp only [rLD, rLE, putAll, Act.put, List.getD_cons_succ, List.getD_cons_zero, List.setIfInBounds_toArray, List.set_cons_zero, List.set_cons_succ, h11] at hK ⊢
          go_simp
          exact hK.out _ _ (Below.refl _ _) rfl
        refine owes_cons (Owes.mk (o := ({ dst := some 35, op := .move (.tmp 7), type := 3, pos := "ref.go:167", after := #[{ on := 11, ground := .guard }], guard := some (11, false) } : Oper)) rfl (fun v wk hj hD K hK => ?_)) ?_
        · have h11 : v 11 = (.bool false) := hD 11 (by decide)
          simp only [rLD, rLE, putAll, Act.put, List.getD_cons_succ, List.getD_cons_zero, List.setIfInBounds_toArray, List.set_cons_zero, List.set_cons_succ, h11] at hK ⊢
          go_simp
          exact hK.out _ _ (Below.refl _ _) rfl
        refine owes_cons (Owes.mk (o := ({ dst := some 36, op := .indexAddr 22 (.tmp 34) (.tmp 35), type := 0, pos := "ref.go:167", after := #[{ on := 12, ground := .data }, { on := 13, ground := .data }, { on := 11, ground := .guard }], guard := some (11, false) } : Oper)) rfl (fun v wk hj hD K hK => ?_)) ?_
        · have h11 : v 11 = (.bool false) := hD 11 (by decide)
          have h12 : v 12 = (.slice (some ⟨b, off, none⟩) l.length c) := hD 12 (by decide)
          have h13 : v 13 = (.int .i64 (k : Int)) := hD 13 (by decide)
          simp only [rLD, rLE, putAll, Act.put, List.getD_cons_succ, List.getD_cons_zero, List.setIfInBounds_toArray, List.set_cons_zero, List.set_cons_succ, h11, h12, h13] at hK ⊢
          have i4 := I2.out
          have i5 := I0.out
          go_simp
          exact hK.out _ _ (Below.refl _ _) rfl
        refine owes_cons (Owes.mk (o := ({ dst := some 37, op := .fieldAddr 74 (.tmp 36) 1, type := 0, pos := "ref.go:167", after := #[{ on := 14, ground := .data }, { on := 11, ground := .guard }], guard := some (11, false) } : Oper)) rfl (fun v wk hj hD K hK => ?_)) ?_
        · have h11 : v 11 = (.bool false) := hD 11 (by decide)
          have h14 : v 14 = (.pointer (some ⟨b, off + k * 2, none⟩)) := hD 14 (by decide)
          simp only [rLD, rLE, putAll, Act.put, List.getD_cons_succ, List.getD_cons_zero, List.setIfInBounds_toArray, List.set_cons_zero, List.set_cons_succ, h11, h14] at hK ⊢
          go_simp
          exact hK.out _ _ (Below.refl _ _) rfl
        refine owes_cons (Owes.mk (o := ({ dst := some 38, op := .load 72 (.tmp 37), type := 72, pos := "ref.go:167", after := #[{ on := 15, ground := .data }, { on := 11, ground := .guard }], guard := some (11, false) } : Oper)) rfl (fun v wk hj hD K hK => ?_)) ?_
        · have h11 : v 11 = (.bool false) := hD 11 (by decide)
          have h15 : v 15 = (.pointer (some ⟨b, off + k * 2 + 1, none⟩)) := hD 15 (by decide)
          simp only [rLD, rLE, putAll, Act.put, List.getD_cons_succ, List.getD_cons_zero, List.setIfInBounds_toArray, List.set_cons_zero, List.set_cons_succ, h11, h15] at hK ⊢
          have a0 := cell_below hj Q1.out HBB.out
          go_simp
          exact hK.out _ _ (Below.refl _ _) rfl
        refine owes_cons (Owes.mk (o := ({ dst := some 39, op := .call { callee := .builtin .len, args := #[.tmp 38], argTypes := #[72] }, type := 3, pos := "ref.go:167", after := #[{ on := 16, ground := .data }, { on := 11, ground := .guard }], guard := some (11, false) } : Oper)) rfl (fun v wk hj hD K hK => ?_)) ?_
        · have h11 : v 11 = (.bool false) := hD 11 (by decide)
          have h16 : v 16 = (.slice x.A x.l.length x.c) := hD 16 (by decide)
          simp only [rLD, rLE, putAll, Act.put, List.getD_cons_succ, List.getD_cons_zero, List.setIfInBounds_toArray, List.set_cons_zero, List.set_cons_succ, h11, h16] at hK ⊢
          go_simp
          exact hK.out _ _ (Below.refl _ _) rfl
        refine owes_cons (Owes.mk (o := ({ dst := some 40, op := .move (.tmp 1), type := 22, pos := "ref.go:167", after := #[{ on := 11, ground := .guard }], guard := some (11, false) } : Oper)) rfl (fun v wk hj hD K hK => ?_)) ?_
        · have h11 : v 11 = (.bool false) := hD 11 (by decide)
          simp only [rLD, rLE, putAll, Act.put, List.getD_cons_succ, List.getD_cons_zero, List.setIfInBounds_toArray, List.set_cons_zero, List.set_cons_succ, h11] at hK ⊢
          go_simp
          exact hK.out _ _ (Below.refl _ _) rfl
        refine owes_cons (Owes.mk (o := ({ dst := some 41, op := .move (.tmp 7), type := 3, pos := "ref.go:167", after := #[{ on := 11, ground := .guard }], guard := some (11, false) } : Oper)) rfl (fun v wk hj hD K hK => ?_)) ?_
        · have h11 : v 11 = (.bool false) := hD 11 (by decide)
          simp only [rLD, rLE, putAll, Act.put, List.getD_cons_succ, List.getD_cons_zero, List.setIfInBounds_toArray, List.set_cons_zero, List.set_cons_succ, h11] at hK ⊢
          go_simp
          exact hK.out _ _ (Below.refl _ _) rfl
        refine owes_cons (Owes.mk (o := ({ dst := some 42, op := .indexAddr 22 (.tmp 40) (.tmp 41), type := 0, pos := "ref.go:167", after := #[{ on := 18, ground := .data }, { on := 19, ground := .data }, { on := 11, ground := .guard }], guard := some (11, false) } : Oper)) rfl (fun v wk hj hD K hK => ?_)) ?_
        · have h11 : v 11 = (.bool false) := hD 11 (by decide)
          have h18 : v 18 = (.slice (some ⟨b', off', none⟩) m.length c') := hD 18 (by decide)
          have h19 : v 19 = (.int .i64 (k : Int)) := hD 19 (by decide)
          simp only [rLD, rLE, putAll, Act.put, List.getD_cons_succ, List.getD_cons_zero, List.setIfInBounds_toArray, List.set_cons_zero, List.set_cons_succ, h11, h18, h19] at hK ⊢
          have i4 := I3.out
          have i5 := I0.out
          go_simp
          exact hK.out _ _ (Below.refl _ _) rfl
        refine owes_cons (Owes.mk (o := ({ dst := some 43, op := .fieldAddr 74 (.tmp 42) 1, type := 0, pos := "ref.go:167", after := #[{ on := 20, ground := .data }, { on := 11, ground := .guard }], guard := some (11, false) } : Oper)) rfl (fun v wk hj hD K hK => ?_)) ?_
        · have h11 : v 11 = (.bool false) := hD 11 (by decide)
          have h20 : v 20 = (.pointer (some ⟨b', off' + k * 2, none⟩)) := hD 20 (by decide)
          simp only [rLD, rLE, putAll, Act.put, List.getD_cons_succ, List.getD_cons_zero, List.setIfInBounds_toArray, List.set_cons_zero, List.set_cons_succ, h11, h20] at hK ⊢
          go_simp
          exact hK.out _ _ (Below.refl _ _) rfl
        refine owes_cons (Owes.mk (o := ({ dst := some 44, op := .load 72 (.tmp 43), type := 72, pos := "ref.go:167", after := #[{ on := 21, ground := .data }, { on := 11, ground := .guard }], guard := some (11, false) } : Oper)) rfl (fun v wk hj hD K hK => ?_)) ?_
        · have h11 : v 11 = (.bool false) := hD 11 (by decide)
          have h21 : v 21 = (.pointer (some ⟨b', off' + k * 2 + 1, none⟩)) := hD 21 (by decide)
          simp only [rLD, rLE, putAll, Act.put, List.getD_cons_succ, List.getD_cons_zero, List.setIfInBounds_toArray, List.set_cons_zero, List.set_cons_succ, h11, h21] at hK ⊢
          have a0 := cell_below hj P1.out HBB1.out
          go_simp
          exact hK.out _ _ (Below.refl _ _) rfl
        refine owes_cons (Owes.mk (o := ({ dst := some 45, op := .call { callee := .builtin .len, args := #[.tmp 44], argTypes := #[72] }, type := 3, pos := "ref.go:167", after := #[{ on := 22, ground := .data }, { on := 11, ground := .guard }], guard := some (11, false) } : Oper)) rfl (fun v wk hj hD K hK => ?_)) ?_
        · have h11 : v 11 = (.bool false) := hD 11 (by decide)
          have h22 : v 22 = (.slice y.A y.l.length y.c) := hD 22 (by decide)
          simp only [rLD, rLE, putAll, Act.put, List.getD_cons_succ, List.getD_cons_zero, List.setIfInBounds_toArray, List.set_cons_zero, List.set_cons_succ, h11, h22] at hK ⊢
          go_simp
          exact hK.out _ _ (Below.refl _ _) rfl
        refine owes_cons (Owes.mk (o := ({ dst := some 46, op := .binOp .neq 3 (.tmp 39) (.tmp 45) 3, type := 4, pos := "ref.go:167", after := #[{ on := 17, ground := .data }, { on := 23, ground := .data }, { on := 11, ground := .guard }], guard := some (11, false) } : Oper)) rfl (fun v wk hj hD K hK => ?_)) ?_
        · have h11 : v 11 = (.bool false) := hD 11 (by decide)
          have h17 : v 17 = (.int .i64 (x.l.length : Int)) := hD 17 (by decide)
          have h23 : v 23 = (.int .i64 (y.l.length : Int)) := hD 23 (by decide)
          simp only [rLD, rLE, putAll, Act.put, List.getD_cons_succ, List.getD_cons_zero, List.setIfInBounds_toArray, List.set_cons_zero, List.set_cons_succ, h11, h17, h23] at hK ⊢
          go_simp
          exact hK.out _ _ (Below.refl _ _) (show Value.bool _ = _ by rw [HL2.out])
        refine owes_cons (Owes.mk (o := ({ dst := some 47, op := .pick (.tmp 33) (.const (.bool true)) (.tmp 46), type := 4, pos := "ref.go:167", after := #[{ on := 11, ground := .data }, { on := 24, ground := .data }], guard := none } : Oper)) rfl (fun v wk hj hD K hK => ?_)) ?_
        · have h11 : v 11 = (.bool false) := hD 11 (by decide)
          have h24 : v 24 = (.bool true) := hD 24 (by decide)
          simp only [rLD, rLE, putAll, Act.put, List.getD_cons_succ, List.getD_cons_zero, List.setIfInBounds_toArray, List.set_cons_zero, List.set_cons_succ, h11, h24] at hK ⊢
          go_simp
          exact hK.out _ _ (Below.refl _ _) rfl
        exact owes_nil
      · intro v wf hj hr
        have hl : v 25 = (.bool true) := hr 25 (by decide)
        simp only [rLD, putAll, Act.put, List.getD_cons_succ, List.getD_cons_zero, List.setIfInBounds_toArray, List.set_cons_zero, List.set_cons_succ, hl]
        have HJ := Lib.hid (bnext hbel.out hj)
        have HJ0 := Lib.hid hj
        clear hl hr hj
        go_wp2
        go_ret
        exact ⟨by rw [FIN.out]; rfl, HJ.out⟩
    have HL2 := Lib.hid (show ((x.l.length : Int) != (y.l.length : Int)) = false by rw [hl2]; simp)
    have HL3 := Lib.hid hl2
    clear hl2
    have NX0 := Lib.hid (show eqL (sameA (sameC r)) x.l y.l = false → ans = false from fun h => by rw [← hr.out, ST.out, CL.out, h]; rfl)
    have NX1 := Lib.hid (show eqL (sameA (sameC r)) x.l y.l = true → eqL (sameCl (sameC r)) (l.drop (k + 1)) (m.drop (k + 1)) = ans from fun h => by rw [← hr.out, ST.out, CL.out, h]; rfl)
    refine region_phase_all [0, 1, 2, 3, 4, 5, 6, 7, 8, 9, 10, 11, 12, 13, 14, 15, 16, 17, 18, 19, 20, 21, 22, 23, 24, 25] rSD rSE (fun w' => Below wr.heap.size wr w') (saidOf [Is (.slice (some ⟨b, off, none⟩) l.length c), Is (.int .i64 (k : Int)), Is (.pointer (some ⟨b, off + k * 2, none⟩)), Is (.pointer (some ⟨b, off + k * 2, none⟩)), Is (.string x.n), Is (.slice (some ⟨b', off', none⟩) m.length c'), Is (.int .i64 (k : Int)), Is (.pointer (some ⟨b', off' + k * 2, none⟩)), Is (.pointer (some ⟨b', off' + k * 2, none⟩)), Is (.string y.n), Is (.bool false), Is (.bool false), Is (.slice (some ⟨b, off, none⟩) l.length c), Is (.int .i64 (k : Int)), Is (.pointer (some ⟨b, off + k * 2, none⟩)), Is (.pointer (some ⟨b, off + k * 2 + 1, none⟩)), Is (.slice x.A x.l.length x.c), Is (.int .i64 (x.l.length : Int)), Is (.slice (some ⟨b', off', none⟩) m.length c'), Is (.int .i64 (k : Int)), Is (.pointer (some ⟨b', off' + k * 2, none⟩)), Is (.pointer (some ⟨b', off' + k * 2 + 1, none⟩)), Is (.slice y.A y.l.length y.c), Is (.int .i64 (y.l.length : Int)), Is (.bool false), Is (.bool false)]) 114 (by rfl) (by kernel_rfl) (by kernel_rfl) (by kernel_rfl) (fun _ _ h hb => bnext h hb) (stays_said _ (stays_cons (Is.stays _) (stays_cons (Is.stays _) (stays_cons (Is.stays _) (stays_cons (Is.stays _) (stays_cons (Is.stays _) (stays_cons (Is.stays _) (stays_cons (Is.stays _) (stays_cons (Is.stays _) (stays_cons (Is.stays _) (stays_cons (Is.stays _) (stays_cons (Is.stays _) (stays_cons (Is.stays _) (stays_cons (Is.stays _) (stays_cons (Is.stays _) (stays_cons (Is.stays _) (stays_cons (Is.stays _) (stays_cons (Is.stays _) (stays_cons (Is.stays _) (stays_cons (Is.stays _) (stays_cons (Is.stays _) (stays_cons (Is.stays _) (stays_cons (Is.stays _) (stays_cons (Is.stays _) (stays_cons (Is.stays _) (stays_cons (Is.stays _) (stays_cons (Is.stays _) stays_nil))))))))))))))))))))))))))) (below_drewN _ _ 1) (by kernel_rfl) ?_ ?_
    · skip
      refine owes_cons (Owes.mk (o := ({ dst := some 22, op := .move (.tmp 0), type := 22, pos := "ref.go:167", after := #[], guard := none } : Oper)) rfl (fun v wk hj hD K hK => ?_)) ?_
      · simp only [rSD, rSE, putAll, Act.put, List.getD_cons_zero, List.setIfInBounds_toArray, List.set_cons_zero, List.set_cons_succ] at hK ⊢
        go_simp
        exact hK.out _ _ (Below.refl _ _) rfl
      refine owes_cons (Owes.mk (o := ({ dst := some 23, op := .move (.tmp 7), type := 3, pos := "ref.go:167", after := #[], guard := none } : Oper)) rfl (fun v wk hj hD K hK => ?_)) ?_
      · simp only [rSD, rSE, putAll, Act.put, List.getD_cons_succ, List.getD_cons_zero, List.setIfInBounds_toArray, List.set_cons_zero, List.set_cons_succ] at hK ⊢
        go_simp
        exact hK.out _ _ (Below.refl _ _) rfl
      refine owes_cons (Owes.mk (o := ({ dst := some 24, op := .indexAddr 22 (.tmp 22) (.tmp 23), type := 0, pos := "ref.go:167", after := #[{ on := 0, ground := .data }, { on := 1, ground := .data }], guard := none } : Oper)) rfl (fun v wk hj hD K hK => ?_)) ?_
      · have h0 : v 0 = (.slice (some ⟨b, off, none⟩) l.length c) := hD 0 (by decide)
        have h1 : v 1 = (.int .i64 (k : Int)) := hD 1 (by decide)
        simp only [rSD, rSE, putAll, Act.put, List.getD_cons_succ, List.getD_cons_zero, List.setIfInBounds_toArray, List.set_cons_zero, List.set_cons_succ, h0, h1] at hK ⊢
        have i4 := I2.out
        have i5 := I0.out
        go_simp
        exact hK.out _ _ (Below.refl _ _) rfl
      refine owes_cons (Owes.mk (o := ({ dst := some 25, op := .fieldAddr 74 (.tmp 24) 0, type := 0, pos := "ref.go:167", after := #[{ on := 2, ground := .data }], guard := none } : Oper)) rfl (fun v wk hj hD K hK => ?_)) ?_
      · have h2 : v 2 = (.pointer (some ⟨b, off + k * 2, none⟩)) := hD 2 (by decide)
        simp only [rSD, rSE, putAll, Act.put, List.getD_cons_succ, List.getD_cons_zero, List.setIfInBounds_toArray, List.set_cons_zero, List.set_cons_succ, h2] at hK ⊢
        go_simp
        exact hK.out _ _ (Below.refl _ _) rfl
      refine owes_cons (Owes.mk (o := ({ dst := some 26, op := .load 9 (.tmp 25), type := 9, pos := "ref.go:167", after := #[{ on := 3, ground := .data }], guard := none } : Oper)) rfl (fun v wk hj hD K hK => ?_)) ?_
      · have h3 : v 3 = (.pointer (some ⟨b, off + k * 2, none⟩)) := hD 3 (by decide)
        simp only [rSD, rSE, putAll, Act.put, List.getD_cons_succ, List.getD_cons_zero, List.setIfInBounds_toArray, List.set_cons_zero, List.set_cons_succ, h3] at hK ⊢
        have a0 := cell_below hj Q0.out HBB.out
        go_simp
        exact hK.out _ _ (Below.refl _ _) rfl
      refine owes_cons (Owes.mk (o := ({ dst := some 27, op := .move (.tmp 1), type := 22, pos := "ref.go:167", after := #[], guard := none } : Oper)) rfl (fun v wk hj hD K hK => ?_)) ?_
      · simp only [rSD, rSE, putAll, Act.put, List.getD_cons_succ, List.getD_cons_zero, List.setIfInBounds_toArray, List.set_cons_zero, List.set_cons_succ] at hK ⊢
        go_simp
        exact hK.out _ _ (Below.refl _ _) rfl
      refine owes_cons (Owes.mk (o := ({ dst := some 28, op := .move (.tmp 7), type := 3, pos := "ref.go:167", after := #[], guard := none } : Oper)) rfl (fun v wk hj hD K hK => ?_)) ?_
      · simp only [rSD, rSE, putAll, Act.put, List.getD_cons_succ, List.getD_cons_zero, List.setIfInBounds_toArray, List.set_cons_zero, List.set_cons_succ] at hK ⊢
        go_simp
        exact hK.out _ _ (Below.refl _ _) rfl
      refine owes_cons (Owes.mk (o := ({ dst := some 29, op := .indexAddr 22 (.tmp 27) (.tmp 28), type := 0, pos := "ref.go:167", after := #[{ on := 5, ground := .data }, { on := 6, ground := .data }], guard := none } : Oper)) rfl (fun v wk hj hD K hK => ?_)) ?_
      · have h5 : v 5 = (.slice (some ⟨b', off', none⟩) m.length c') := hD 5 (by decide)
        have h6 : v 6 = (.int .i64 (k : Int)) := hD 6 (by decide)
        simp only [rSD, rSE, putAll, Act.put, List.getD_cons_succ, List.getD_cons_zero, List.setIfInBounds_toArray, List.set_cons_zero, List.set_cons_succ, h5, h6] at hK ⊢
        have i4 := I3.out
        have i5 := I0.out
        go_simp
        exact hK.out _ _ (Below.refl _ _) rfl
      refine owes_cons (Owes.mk (o := ({ dst := some 30, op := .fieldAddr 74 (.tmp 29) 0, type := 0, pos := "ref.go:167", after := #[{ on := 7, ground := .data }], guard := none } : Oper)) rfl (fun v wk hj hD K hK => ?_)) ?_
      · have h7 : v 7 = (.pointer (some ⟨b', off' + k * 2, none⟩)) := hD 7 (by decide)
        simp only [rSD, rSE, putAll, Act.put, List.getD_cons_succ, List.getD_cons_zero, List.setIfInBounds_toArray, List.set_cons_zero, List.set_cons_succ, h7] at hK ⊢
        go_simp
        exact hK.out _ _ (Below.refl _ _) rfl
      refine owes_cons (Owes.mk (o := ({ dst := some 31, op := .load 9 (.tmp 30), type := 9, pos := "ref.go:167", after := #[{ on := 8, ground := .data }], guard := none } : Oper)) rfl (fun v wk hj hD K hK => ?_)) ?_
      · have h8 : v 8 = (.pointer (some ⟨b', off' + k * 2, none⟩)) := hD 8 (by decide)
        simp only [rSD, rSE, putAll, Act.put, List.getD_cons_succ, List.getD_cons_zero, List.setIfInBounds_toArray, List.set_cons_zero, List.set_cons_succ, h8] at hK ⊢
        have a0 := cell_below hj P0.out HBB1.out
        go_simp
        exact hK.out _ _ (Below.refl _ _) rfl
      refine owes_cons (Owes.mk (o := ({ dst := some 32, op := .binOp .neq 9 (.tmp 26) (.tmp 31) 9, type := 4, pos := "ref.go:167", after := #[{ on := 4, ground := .data }, { on := 9, ground := .data }], guard := none } : Oper)) rfl (fun v wk hj hD K hK => ?_)) ?_
      · have h4 : v 4 = (.string x.n) := hD 4 (by decide)
        have h9 : v 9 = (.string y.n) := hD 9 (by decide)
        simp only [rSD, rSE, putAll, Act.put, List.getD_cons_succ, List.getD_cons_zero, List.setIfInBounds_toArray, List.set_cons_zero, List.set_cons_succ, h4, h9] at hK ⊢
        go_simp
        exact hK.out _ _ (Below.refl _ _) (show Value.bool _ = _ by simp only [HZ.out]; rfl)
      refine owes_cons (Owes.mk (o := ({ dst := some 33, op := .move (.tmp 32), type := 4, pos := "ref.go:167", after := #[{ on := 10, ground := .data }], guard := none } : Oper)) rfl (fun v wk hj hD K hK => ?_)) ?_
      · have h10 : v 10 = (.bool false) := hD 10 (by decide)
        simp only [rSD, rSE, putAll, Act.put, List.getD_cons_succ, List.getD_cons_zero, List.setIfInBounds_toArray, List.set_cons_zero, List.set_cons_succ, h10] at hK ⊢
        go_simp
        exact hK.out _ _ (Below.refl _ _) rfl
      refine owes_cons (Owes.mk (o := ({ dst := some 34, op := .move (.tmp 0), type := 22, pos := "ref.go:167", after := #[{ on := 11, ground := .guard }], guard := some (11, false) } : Oper)) rfl (fun v wk hj hD K hK => ?_)) ?_
      · have h11 : v 11 = (.bool false) := hD 11 (by decide)
        simp only [rSD, rSE, putAll, Act.put, List.getD_cons_succ, List.getD_cons_zero, List.setIfInBounds_toArray, List.set_cons_zero, List.set_cons_succ, h11] at hK ⊢
        go_simp
        exact hK.out _ _ (Below.refl _ _) rfl
      refine owes_cons (Owes.mk (o := ({ dst := some 35, op := .move (.tmp 7), type := 3, pos := "ref.go:167", after := #[{ on := 11, ground := .guard }], guard := some (11, false) } : Oper)) rfl (fun v wk hj hD K hK => ?_)) ?_
      · have h11 : v 11 = (.bool false) := hD 11 (by decide)
        simp only [rSD, rSE, putAll, Act.put, List.getD_cons_succ, List.getD_cons_zero, List.setIfInBounds_toArray, List.set_cons_zero, List.set_cons_succ, h11] at hK ⊢
        go_simp
        exact hK.out _ _ (Below.refl _ _) rfl
      refine owes_cons (Owes.mk (o := ({ dst := some 36, op := .indexAddr 22 (.tmp 34) (.tmp 35), type := 0, pos := "ref.go:167", after := #[{ on := 12, ground := .data }, { on := 13, ground := .data }, { on := 11, ground := .guard }], guard := some (11, false) } : Oper)) rfl (fun v wk hj hD K hK => ?_)) ?_
      · have h11 : v 11 = (.bool false) := hD 11 (by decide)
        have h12 : v 12 = (.slice (some ⟨b, off, none⟩) l.length c) := hD 12 (by decide)
        have h13 : v 13 = (.int .i64 (k : Int)) := hD 13 (by decide)
        simp only [rSD, rSE, putAll, Act.put, List.getD_cons_succ, List.getD_cons_zero, List.setIfInBounds_toArray, List.set_cons_zero, List.set_cons_succ, h11, h12, h13] at hK ⊢
        have i4 := I2.out
        have i5 := I0.out
        go_simp
        exact hK.out _ _ (Below.refl _ _) rfl
      refine owes_cons (Owes.mk (o := ({ dst := some 37, op := .fieldAddr 74 (.tmp 36) 1, type := 0, pos := "ref.go:167", after := #[{ on := 14, ground := .data }, { on := 11, ground := .guard }], guard := some (11, false) } : Oper)) rfl (fun v wk hj hD K hK => ?_)) ?_
      · have h11 : v 11 = (.bool false) := hD 11 (by decide)
        have h14 : v 14 = (.pointer (some ⟨b, off + k * 2, none⟩)) := hD 14 (by decide)
        simp only [rSD, rSE, putAll, Act.put, List.getD_cons_succ, List.getD_cons_zero, List.setIfInBounds_toArray, List.set_cons_zero, List.set_cons_succ, h11, h14] at hK ⊢
        go_simp
        exact hK.out _ _ (Below.refl _ _) rfl
      refine owes_cons (Owes.mk (o := ({ dst := some 38, op := .load 72 (.tmp 37), type := 72, pos := "ref.go:167", after := #[{ on := 15, ground := .data }, { on := 11, ground := .guard }], guard := some (11, false) } : Oper)) rfl (fun v wk hj hD K hK => ?_)) ?_
      · have h11 : v 11 = (.bool false) := hD 11 (by decide)
        have h15 : v 15 = (.pointer (some ⟨b, off + k * 2 + 1, none⟩)) := hD 15 (by decide)
        simp only [rSD, rSE, putAll, Act.put, List.getD_cons_succ, List.getD_cons_zero, List.setIfInBounds_toArray, List.set_cons_zero, List.set_cons_succ, h11, h15] at hK ⊢
        have a0 := cell_below hj Q1.out HBB.out
        go_simp
        exact hK.out _ _ (Below.refl _ _) rfl
      refine owes_cons (Owes.mk (o := ({ dst := some 39, op := .call { callee := .builtin .len, args := #[.tmp 38], argTypes := #[72] }, type := 3, pos := "ref.go:167", after := #[{ on := 16, ground := .data }, { on := 11, ground := .guard }], guard := some (11, false) } : Oper)) rfl (fun v wk hj hD K hK => ?_)) ?_
      · have h11 : v 11 = (.bool false) := hD 11 (by decide)
        have h16 : v 16 = (.slice x.A x.l.length x.c) := hD 16 (by decide)
        simp only [rSD, rSE, putAll, Act.put, List.getD_cons_succ, List.getD_cons_zero, List.setIfInBounds_toArray, List.set_cons_zero, List.set_cons_succ, h11, h16] at hK ⊢
        go_simp
        exact hK.out _ _ (Below.refl _ _) rfl
      refine owes_cons (Owes.mk (o := ({ dst := some 40, op := .move (.tmp 1), type := 22, pos := "ref.go:167", after := #[{ on := 11, ground := .guard }], guard := some (11, false) } : Oper)) rfl (fun v wk hj hD K hK => ?_)) ?_
      · have h11 : v 11 = (.bool false) := hD 11 (by decide)
        simp only [rSD, rSE, putAll, Act.put, List.getD_cons_succ, List.getD_cons_zero, List.setIfInBounds_toArray, List.set_cons_zero, List.set_cons_succ, h11] at hK ⊢
        go_simp
        exact hK.out _ _ (Below.refl _ _) rfl
      refine owes_cons (Owes.mk (o := ({ dst := some 41, op := .move (.tmp 7), type := 3, pos := "ref.go:167", after := #[{ on := 11, ground := .guard }], guard := some (11, false) } : Oper)) rfl (fun v wk hj hD K hK => ?_)) ?_
      · have h11 : v 11 = (.bool false) := hD 11 (by decide)
        simp only [rSD, rSE, putAll, Act.put, List.getD_cons_succ, List.getD_cons_zero, List.setIfInBounds_toArray, List.set_cons_zero, List.set_cons_succ, h11] at hK ⊢
        go_simp
        exact hK.out _ _ (Below.refl _ _) rfl
      refine owes_cons (Owes.mk (o := ({ dst := some 42, op := .indexAddr 22 (.tmp 40) (.tmp 41), type := 0, pos := "ref.go:167", after := #[{ on := 18, ground := .data }, { on := 19, ground := .data }, { on := 11, ground := .guard }], guard := some (11, false) } : Oper)) rfl (fun v wk hj hD K hK => ?_)) ?_
      · have h11 : v 11 = (.bool false) := hD 11 (by decide)
        have h18 : v 18 = (.slice (some ⟨b', off', none⟩) m.length c') := hD 18 (by decide)
        have h19 : v 19 = (.int .i64 (k : Int)) := hD 19 (by decide)
        simp only [rSD, rSE, putAll, Act.put, List.getD_cons_succ, List.getD_cons_zero, List.setIfInBounds_toArray, List.set_cons_zero, List.set_cons_succ, h11, h18, h19] at hK ⊢
        have i4 := I3.out
        have i5 := I0.out
        go_simp
        exact hK.out _ _ (Below.refl _ _) rfl
      refine owes_cons (Owes.mk (o := ({ dst := some 43, op := .fieldAddr 74 (.tmp 42) 1, type := 0, pos := "ref.go:167", after := #[{ on := 20, ground := .data }, { on := 11, ground := .guard }], guard := some (11, false) } : Oper)) rfl (fun v wk hj hD K hK => ?_)) ?_
      · have h11 : v 11 = (.bool false) := hD 11 (by decide)
        have h20 : v 20 = (.pointer (some ⟨b', off' + k * 2, none⟩)) := hD 20 (by decide)
        simp only [rSD, rSE, putAll, Act.put, List.getD_cons_succ, List.getD_cons_zero, List.setIfInBounds_toArray, List.set_cons_zero, List.set_cons_succ, h11, h20] at hK ⊢
        go_simp
        exact hK.out _ _ (Below.refl _ _) rfl
      refine owes_cons (Owes.mk (o := ({ dst := some 44, op := .load 72 (.tmp 43), type := 72, pos := "ref.go:167", after := #[{ on := 21, ground := .data }, { on := 11, ground := .guard }], guard := some (11, false) } : Oper)) rfl (fun v wk hj hD K hK => ?_)) ?_
      · have h11 : v 11 = (.bool false) := hD 11 (by decide)
        have h21 : v 21 = (.pointer (some ⟨b', off' + k * 2 + 1, none⟩)) := hD 21 (by decide)
        simp only [rSD, rSE, putAll, Act.put, List.getD_cons_succ, List.getD_cons_zero, List.setIfInBounds_toArray, List.set_cons_zero, List.set_cons_succ, h11, h21] at hK ⊢
        have a0 := cell_below hj P1.out HBB1.out
        go_simp
        exact hK.out _ _ (Below.refl _ _) rfl
      refine owes_cons (Owes.mk (o := ({ dst := some 45, op := .call { callee := .builtin .len, args := #[.tmp 44], argTypes := #[72] }, type := 3, pos := "ref.go:167", after := #[{ on := 22, ground := .data }, { on := 11, ground := .guard }], guard := some (11, false) } : Oper)) rfl (fun v wk hj hD K hK => ?_)) ?_
      · have h11 : v 11 = (.bool false) := hD 11 (by decide)
        have h22 : v 22 = (.slice y.A y.l.length y.c) := hD 22 (by decide)
        simp only [rSD, rSE, putAll, Act.put, List.getD_cons_succ, List.getD_cons_zero, List.setIfInBounds_toArray, List.set_cons_zero, List.set_cons_succ, h11, h22] at hK ⊢
        go_simp
        exact hK.out _ _ (Below.refl _ _) rfl
      refine owes_cons (Owes.mk (o := ({ dst := some 46, op := .binOp .neq 3 (.tmp 39) (.tmp 45) 3, type := 4, pos := "ref.go:167", after := #[{ on := 17, ground := .data }, { on := 23, ground := .data }, { on := 11, ground := .guard }], guard := some (11, false) } : Oper)) rfl (fun v wk hj hD K hK => ?_)) ?_
      · have h11 : v 11 = (.bool false) := hD 11 (by decide)
        have h17 : v 17 = (.int .i64 (x.l.length : Int)) := hD 17 (by decide)
        have h23 : v 23 = (.int .i64 (y.l.length : Int)) := hD 23 (by decide)
        simp only [rSD, rSE, putAll, Act.put, List.getD_cons_succ, List.getD_cons_zero, List.setIfInBounds_toArray, List.set_cons_zero, List.set_cons_succ, h11, h17, h23] at hK ⊢
        go_simp
        exact hK.out _ _ (Below.refl _ _) (show Value.bool _ = _ by rw [HL2.out])
      refine owes_cons (Owes.mk (o := ({ dst := some 47, op := .pick (.tmp 33) (.const (.bool true)) (.tmp 46), type := 4, pos := "ref.go:167", after := #[{ on := 11, ground := .data }, { on := 24, ground := .data }], guard := none } : Oper)) rfl (fun v wk hj hD K hK => ?_)) ?_
      · have h11 : v 11 = (.bool false) := hD 11 (by decide)
        have h24 : v 24 = (.bool false) := hD 24 (by decide)
        simp only [rSD, rSE, putAll, Act.put, List.getD_cons_succ, List.getD_cons_zero, List.setIfInBounds_toArray, List.set_cons_zero, List.set_cons_succ, h11, h24] at hK ⊢
        go_simp
        exact hK.out _ _ (Below.refl _ _) rfl
      exact owes_nil
    · intro v wf hj hr
      have hl : v 25 = (.bool false) := hr 25 (by decide)
      simp only [rSD, putAll, Act.put, List.getD_cons_succ, List.getD_cons_zero, List.setIfInBounds_toArray, List.set_cons_zero, List.set_cons_succ, hl]
      have HJ := Lib.hid (bnext hbel.out hj)
      have HJ0 := Lib.hid hj
      clear hl hr hj
      have QF0 := Lib.hid (cell_below HJ0.out Q1.out HBB.out)
      have QF1 := Lib.hid (cell_below HJ0.out P1.out HBB1.out)
      have HF0 := Lib.hid (Nat.lt_of_lt_of_le HBB.out HJ0.out.size)
      have HF1 := Lib.hid (Nat.lt_of_lt_of_le HBB1.out HJ0.out.size)
      have RF := Lib.hid (RA.out.next HJ0.out)
      have RF' := Lib.hid (RA'.out.next HJ0.out)
      clear Q0 Q1 P0 P1 HBB HBB1 RA RA' HJ0
      go_wp2
      go_loopw [8] (fun i wr => ∃ j : Nat, j ≤ x.l.length ∧ i = .int .i64 j ∧ Hid (Below wf.heap.size wf wr) ∧ Hid (eqL (sameA (sameC r)) (x.l.drop j) (y.l.drop j) = eqL (sameA (sameC r)) x.l y.l)) (fun i _ => x.l.length - (intOf i).toNat)
      case atStart => exact ⟨0, by omega, rfl, Lib.hid (Below.refl _ _), Lib.hid (by simp)⟩
      case round =>
        obtain ⟨j, hj, rfl, hbel2, hr2⟩ := hrel
        have s0 := cell_below hbel2.out QF0.out HF0.out
        have s1 := cell_below hbel2.out QF1.out HF1.out
        have i0 := I0.out
        have i2 := I2.out
        have i3 := I3.out
        by_cases hlt2 : j < x.l.length
        case neg =>
          have NX := Lib.hid (NX1.out (by rw [← hr2.out]; exact eqL_end _ _ _ _ (by omega) (by have := HL3.out; omega)))
          go_wp2
          go_roundw
          case rel => exact ⟨k + 1, by omega, by go_num, Lib.hid (bnext HJ.out hbel2.out), NX⟩
          case measure => simp [intOf]; omega
        have hltm2 : j < y.l.length := by have := HL3.out; omega
        obtain ⟨b2, off2, g, eA, hb2, hg, q, rg⟩ := (RF.out.next hbel2.out).elem hlt2
        obtain ⟨b3, off3, u, eB, hb3, hu, q', ru⟩ := (RF'.out.next hbel2.out).elem hltm2
        rw [eA] at s0
        rw [eB] at s1
        have ST2 := Lib.hid (eqL_step (sameA (sameC r)) x.l y.l j hg hu)
        obtain ⟨q0, q1, q2, q3, q4, q5, q6, q7, q8, q9, q10⟩ := q
        have RG := Lib.hid rg
        have RU := Lib.hid ru
        have hbg := rg.c.big
        have hbu := ru.c.big
        have W0 := Lib.hid s0
        have W1 := Lib.hid s1
        have U0 := Lib.hid q'
        have HB3 := Lib.hid hb3
        have j0 : (0 : Int) ≤ (j : Int) := by omega
        have j2 : (j : Int) < (x.l.length : Int) := by omega
        have j3 : (j : Int) < (y.l.length : Int) := by omega
        have BW := Lib.hid (Nat.lt_of_lt_of_le HF1.out hbel2.out.size)
        clear rg ru hg hu eA eB hb2 hb3 q'
        go_upto_region 12 with fail
        have k1 := BG.new wr g
        have hb := below_new wr (.cells #[.int .i64 g.k, .int .i64 g.x.t.k, .int .i64 g.x.t.n, .string g.x.t.s, .slice g.x.A g.x.t.l.length g.x.c, .slice g.x.A' g.x.t.m.length g.x.c', .int .i64 g.q.t.k, .slice g.q.A g.q.t.v.length g.q.c, .slice g.q.A' g.q.t.p.length g.q.c', .slice g.A g.l.length g.c, .string g.s] 82)
        generalize hW : World.alloc wr _ = V
        rw [hW] at k1 hb
        have K1 := Lib.hid k1
        have HBV := Lib.hid hb
        clear s0 s1 q0 q1 q2 q3 q4 q5 q6 q7 q8 q9 q10 k1
        have s1 := cell_below hb W1.out BW.out
        obtain ⟨p0, p1, p2, p3, p4, p5, p6, p7, p8, p9, p10⟩ := cellsG.next U0.out hb HB3.out
        clear hW hb
        go_upto_region 13 with fail
        have k1 := BG.new V u
        have hb := below_new V (.cells #[.int .i64 u.k, .int .i64 u.x.t.k, .int .i64 u.x.t.n, .string u.x.t.s, .slice u.x.A u.x.t.l.length u.x.c, .slice u.x.A' u.x.t.m.length u.x.c', .int .i64 u.q.t.k, .slice u.q.A u.q.t.v.length u.q.c, .slice u.q.A' u.q.t.p.length u.q.c', .slice u.A u.l.length u.c, .string u.s] 82)
        generalize hW : World.alloc V _ = Y
        rw [hW] at k1 hb
        have X1 := Lib.hid (K1.out.next hb)
        have Y1 := Lib.hid k1
        have HB1 := Lib.hid (bnext hbel2.out (bnext HBV.out hb))
        have DB := Lib.hid (bnext HBV.out hb)
        obtain ⟨a0, a1, a2, a3, a4, a5, a6, a7, a8, a9, a10, _⟩ := X1.out
        obtain ⟨b0, b1, b2, b3, b4, b5, b6, b7, b8, b9, b10, _⟩ := Y1.out
        clear hW hb k1 s1 p0 p1 p2 p3 p4 p5 p6 p7 p8 p9 p10
        have AEQ := Lib.hid (show sameA (sameC r) g.t u.t = (g.k == u.k && (g.s.toList == u.s.toList && (cmpV 12 g.x.t u.x.t == 0 && (sameP g.q.t u.q.t && sameC r g.l u.l)))) from rfl)
        have NO := Lib.hid (show sameA (sameC r) g.t u.t = false → ans = false from fun h => NX0.out (by rw [← hr2.out, ST2.out, h]; rfl))
        have YES := Lib.hid (show sameA (sameC r) g.t u.t = true → eqL (sameA (sameC r)) (x.l.drop (j + 1)) (y.l.drop (j + 1)) = eqL (sameA (sameC r)) x.l y.l from fun h => by rw [← hr2.out, ST2.out, h]; rfl)
        obtain ⟨nv, hnv⟩ := (RG.out.next DB.out).v
        obtain ⟨mv, hmv⟩ := (RU.out.next DB.out).v
        obtain ⟨np, hnp⟩ := (RG.out.next DB.out).p
        obtain ⟨mp, hmp⟩ := (RU.out.next DB.out).p
        have V1 := Lib.hid (show g.x.In Y nv from hnv)
        have V2 := Lib.hid (show u.x.In Y mv from hmv)
        have P1 := Lib.hid (show g.q.In Y np from hnp)
        have P2 := Lib.hid (show u.q.In Y mp from hmp)
        clear hnv hmv hnp hmp
        cases h1 : (g.k == u.k)
        case false =>
          have FIN := Lib.hid (NO.out (by rw [AEQ.out, h1]; rfl))
          have h1' : (g.k != u.k) = true := by simp only [bne, h1]; rfl
          go_wp2_with fail
          go_ret
          exact ⟨by rw [FIN.out]; rfl, bnext HJ.out HB1.out⟩
        have h1' : (g.k != u.k) = false := by simp only [bne, h1]; rfl
        rw [h1] at AEQ
        cases h2 : (g.s.toList == u.s.toList)
        case false =>
          have FIN := Lib.hid (NO.out (by rw [AEQ.out, h2]; rfl))
          go_wp2_with fail
          go_ret
          exact ⟨by rw [FIN.out]; rfl, bnext HJ.out HB1.out⟩
        rw [h2] at AEQ
        have CT := Lib.hid (refSameV_any Y nv mv g.x u.x V1.out V2.out)
        generalize (cmpV 12 g.x.t u.x.t == 0) = c1 at *
        go_wp2_with fail
        refine CT.out.mono ?_
        rintro e w2 ⟨rfl, hb⟩
        have HB2 := Lib.hid (bnext HB1.out hb)
        have X2 := Lib.hid (X1.out.next hb)
        have Y2 := Lib.hid (Y1.out.next hb)
        have D2 := Lib.hid (hb)
        clear hb CT a0 a1 a2 a3 a4 a5 a6 a7 a8 a9 a10 b0 b1 b2 b3 b4 b5 b6 b7 b8 b9 b10
        obtain ⟨a0, a1, a2, a3, a4, a5, a6, a7, a8, a9, a10, _⟩ := X2.out
        obtain ⟨b0, b1, b2, b3, b4, b5, b6, b7, b8, b9, b10, _⟩ := Y2.out
        cases c1
        case false =>
          have FIN := Lib.hid (NO.out (by rw [AEQ.out]; rfl))
          go_wp2_with fail
          go_ret
          exact ⟨by rw [FIN.out]; rfl, bnext HJ.out HB2.out⟩
        have CT := Lib.hid (refSameP_any w2 np mp g.q u.q (P1.out.next D2.out) (P2.out.next D2.out))
        generalize sameP g.q.t u.q.t = c2 at *
        go_wp2_with fail
        refine CT.out.mono ?_
        rintro e w3 ⟨rfl, hb⟩
        have HB3B := Lib.hid (bnext HB2.out hb)
        have X3 := Lib.hid (X2.out.next hb)
        have Y3 := Lib.hid (Y2.out.next hb)
        have D3 := Lib.hid (bnext D2.out hb)
        clear hb CT a0 a1 a2 a3 a4 a5 a6 a7 a8 a9 a10 b0 b1 b2 b3 b4 b5 b6 b7 b8 b9 b10
        obtain ⟨a0, a1, a2, a3, a4, a5, a6, a7, a8, a9, a10, _⟩ := X3.out
        obtain ⟨b0, b1, b2, b3, b4, b5, b6, b7, b8, b9, b10, _⟩ := Y3.out
        cases c2
        case false =>
          have FIN := Lib.hid (NO.out (by rw [AEQ.out]; rfl))
          go_wp2_with fail
          go_ret
          exact ⟨by rw [FIN.out]; rfl, bnext HJ.out HB3B.out⟩
        rcases Nat.eq_zero_or_pos r with hr3 | hr3
        · have NX := Lib.hid (YES.out (by rw [AEQ.out, hr3]; rfl))
          have hg0 : ¬ (0 : Int) < (r : Int) := by omega
          clear hr3
          go_wp2_with fail
          go_roundw
          case rel => exact ⟨j + 1, by omega, by go_num, HB3B, NX⟩
          case measure => simp [intOf]; omega
        · obtain ⟨s, hs⟩ : ∃ s, r = s + 1 := ⟨r - 1, by omega⟩
          have hg0 : (0 : Int) < (r : Int) := by omega
          have i1 : IntKind.i64.wrap ((r : Int) - 1) = (s : Int) := by rw [IntWalk.i64_in _ (by omega)]; omega
          have i1' : wrap64 ((r : Int) - 1) = (s : Int) := by unfold wrap64; omega
          have CT := Lib.hid (IH.out s hs w3 _ g.A g.c g.l u.A u.c u.l (by omega) ((RG.out.next DB.out).next D3.out).c ((RU.out.next DB.out).next D3.out).c)
          rw [show s + 1 = r from hs.symm] at CT
          generalize sameC r g.l u.l = c3 at *
          clear hr3 hs
          go_wp2_with fail
          refine CT.out.mono ?_
          rintro e w4 ⟨rfl, hb⟩
          have HB4 := Lib.hid (bnext HB3B.out hb)
          clear hb CT
          cases c3
          · have FIN := Lib.hid (NO.out (by rw [AEQ.out]; rfl))
            go_wp2_with fail
            go_ret
            exact ⟨by rw [FIN.out]; rfl, bnext HJ.out HB4.out⟩
          · have NX := Lib.hid (YES.out (by rw [AEQ.out]; rfl))
            go_wp2_with fail
            go_roundw
            case rel => exact ⟨j + 1, by omega, by go_num, HB4, NX⟩
            case measure => simp [intOf]; omega
theorem sameR_any : ∀ r, SameROk r
  | 0 => sameR_step 0 (fun _ h => by omega)
  | r + 1 => sameR_step (r + 1) (fun _ h => by cases h; exact sameR_any r)
end Go.Proofs.YtllkimdlmnjoiaaGreatDoor


