/- Carried over from an earlier seat. -/
import Derived.Test.YtebkkjfeikpfgaaBXB
import Derived.Test.YtebkkjfeikpfgaaBNO
import Derived.Test.YtebkkjfeikpfgaaBNR
import Derived.BigQuiet
import Derived.IntWalk
namespace Go.Proofs.Ytebkkjfeikpfgaa
set_option maxRecDepth 100000
open Go.RowKit Go.Sort
open Go.Maps (Keyed int_keyed keyOf_int_mk)
set_option maxRecDepth 100000

/-- Each stands ahead of the next one. -/
def risG {α : Type} (f : α → α → Bool) : List α → Bool
  | x :: y :: r => f x y && risG f (y :: r)
  | _ => true
theorem risG_next {α : Type} (f : α → α → Bool) (l : List α) (k : Nat) {x y : α} (hx : l[k]? = some x) (hy : l[k + 1]? = some y) : risG f (l.drop k) = (f x y && risG f (l.drop (k + 1))) := by
  obtain ⟨h1, e1⟩ := List.getElem?_eq_some_iff.1 hx
  obtain ⟨h2, e2⟩ := List.getElem?_eq_some_iff.1 hy
  rw [List.drop_eq_getElem_cons h1, e1, List.drop_eq_getElem_cons h2, e2]; rfl
theorem risG_out {α : Type} (f : α → α → Bool) (l : List α) (k : Nat) (h : l.length ≤ k + 1) : risG f (l.drop k) = true := by
  have : (l.drop k).length ≤ 1 := by rw [List.length_drop]; omega
  match l.drop k, this with
  | [], _ => rfl
  | [_], _ => rfl
def keyLt (p q : PA) : Bool := Op.bytesLess p.key.toList q.key.toList
def idLt (s t : TA) : Bool := decide (s.id < t.id)
def okPs (l : List PA) : Bool := decide (l.length ≤ 30) && (l.all okPr && risG keyLt l)
def okTh (t : TA) : Bool := decide (0 ≤ t.id) && (nameB t.label && okPs t.l)
def okThs (most : Nat) (ts : List TA) : Bool := decide (ts.length ≤ most) && (ts.all okTh && risG idLt ts)
def looseB (vs : List TA) (t : TA) : Bool := !vs.any (idB t.o) || !vs.any (idB t.i)
def okG (vs es : List TA) : Bool := okThs 500 vs && (!vs.any endT && (okThs 2000 es && !es.any (looseB vs)))

set_option maxHeartbeats 800000 in
theorem key81 (w : World) (p : PA) : Calls Try.prog 88 #[p.v] w fun e w' => e = .returned (.string p.key) ∧ Below w.heap.size w w' := by
  go_enter Try.func88, Try.ntmps88
  go_wp2
  go_ret
  exact ⟨rfl, below_new _ _⟩
set_option maxHeartbeats 800000 in
theorem id69 (w : World) (t : TA) : Calls Try.prog 76 #[t.v] w fun e w' => e = .returned (.int .i64 t.id) ∧ Below w.heap.size w w' := by
  go_enter Try.func76, Try.ntmps76
  go_wp2
  go_ret
  exact ⟨rfl, below_new _ _⟩
theorem key_regrown (w : World) (p : PA) (d : Nat) (os : Array Obj) : Calls Try.prog 88 #[p.v] (grow (redrawn w d) os) fun x w'' => x = .returned (.string p.key) ∧ ∃ p : Regrown, w'' = grow (redrawn w p.d) p.os :=
  Calls.regrown_of (key81 _ p)
theorem id_regrown (w : World) (t : TA) (d : Nat) (os : Array Obj) : Calls Try.prog 76 #[t.v] (grow (redrawn w d) os) fun x w'' => x = .returned (.int .i64 t.id) ∧ ∃ p : Regrown, w'' = grow (redrawn w p.d) p.os :=
  Calls.regrown_of (id69 _ t)

set_option maxHeartbeats 1600000 in
theorem risesP_any (w : World) (d : Nat) (A : Option Addr) (c : Nat) (l : List PA) (h : PRow w 0 d A c l) :
    Calls Try.prog 90 #[.slice A l.length c, .func (.func 88) #[] #[]] w fun e w' => e = .returned (.bool (risG keyLt l)) ∧ Below w.heap.size w w' := by
  have H1 := Lib.hid h
  have b1 := h.big
  clear h
  go_enter Try.func90, Try.ntmps90
  go_wp2
  go_loopw [5] (fun i wr => ∃ k : Nat, k ≤ l.length ∧ i = .int .i64 ((k : Int) + 1) ∧ Hid (Below w.heap.size w wr) ∧ Hid (risG keyLt (l.drop k) = risG keyLt l)) (fun i _ => l.length + 1 - (intOf i).toNat)
  case atStart => exact ⟨0, by omega, rfl, Lib.hid (Below.refl _ _), Lib.hid (by simp)⟩
  case round =>
    obtain ⟨k, hk, rfl, hbel, hr⟩ := hrel
    by_cases hlt : k + 1 < l.length
    · obtain ⟨b, off, x, hA, hb, hx, q, rx⟩ := (H1.out.next hbel.out).elem (k := k) (by omega)
      obtain ⟨b', off', y, hA', hb', hy, p, ry⟩ := (H1.out.next hbel.out).elem hlt
      rw [hA] at hA'
      injection hA' with hA'
      injection hA' with h1 h2
      subst h1; subst h2
      subst hA
      obtain ⟨q0, q1, q2, q3, q4, q5⟩ := q
      obtain ⟨p0, p1, p2, p3, p4, p5⟩ := p
      have NX := Lib.hid (risG_next keyLt l k hx hy)
      clear rx ry hx hy
      replace q0 := cell_regrown q0
      replace q1 := cell_regrown q1
      replace q2 := cell_regrown q2
      replace q3 := cell_regrown q3
      replace q4 := cell_regrown q4
      replace q5 := cell_regrown q5
      replace p0 := cell_regrown p0
      replace p1 := cell_regrown p1
      replace p2 := cell_regrown p2
      replace p3 := cell_regrown p3
      replace p4 := cell_regrown p4
      replace p5 := cell_regrown p5
      have i0 : (0 : Int) ≤ (k : Int) := by omega
      have i1 : (k : Int) + 1 < (l.length : Int) := by omega
      have i2 : (k : Int) < (l.length : Int) := by omega
      have i3 : IntKind.i64.wrap (k : Int) = (k : Int) := IntWalk.i64_in _ (by omega)
      have i4 : ((k : Int) + 1).toNat = k + 1 := by omega
      go_wp2_with fail
      refine wp_region_quiet_below (by kernel_rfl) (by kernel_rfl) ?_
      repeat (first | go_big_quiet_step (first | exact key_regrown _ x _ _ | exact key_regrown _ y _ _) | quiet_step (first | exact key_regrown _ x _ _ | exact key_regrown _ y _ _))
      refine wpQuiet_nil ?_
      intro _ hw'
      obtain ⟨⟨dq, osq⟩, hw''⟩ := hw'
      subst hw''
      have HB := Lib.hid (bnext hbel.out (below_regrown wr dq osq))
      clear q0 q1 q2 q3 q4 q5 p0 p1 p2 p3 p4 p5 i3 i4
      cases hlt0 : Op.bytesLess x.key.toList y.key.toList
      · have D := Lib.hid (show keyLt x y = false from hlt0)
        go_wp2
        go_ret
        exact ⟨by rw [← hr.out, NX.out, D.out]; rfl, HB.out⟩
      · have D := Lib.hid (show keyLt x y = true from hlt0)
        go_wp2
        go_roundw
        case rel => exact ⟨k + 1, by omega, by go_num, HB, Lib.hid (by rw [← hr.out, NX.out, D.out]; rfl)⟩
        case measure => simp [intOf]; omega
    · have OUT := Lib.hid (risG_out keyLt l k (by omega))
      go_wp2
      go_ret
      exact ⟨by rw [← hr.out, OUT.out]; rfl, hbel.out⟩
set_option maxHeartbeats 1600000 in
theorem risesT_any (w : World) (d : Nat) (A : Option Addr) (c : Nat) (l : List TA) (h : TRow w d A c l) :
    Calls Try.prog 77 #[.slice A l.length c, .func (.func 76) #[] #[]] w fun e w' => e = .returned (.bool (risG idLt l)) ∧ Below w.heap.size w w' := by
  have H1 := Lib.hid h
  have b1 := h.big
  clear h
  go_enter Try.func77, Try.ntmps77
  go_wp2
  go_loopw [5] (fun i wr => ∃ k : Nat, k ≤ l.length ∧ i = .int .i64 ((k : Int) + 1) ∧ Hid (Below w.heap.size w wr) ∧ Hid (risG idLt (l.drop k) = risG idLt l)) (fun i _ => l.length + 1 - (intOf i).toNat)
  case atStart => exact ⟨0, by omega, rfl, Lib.hid (Below.refl _ _), Lib.hid (by simp)⟩
  case round =>
    obtain ⟨k, hk, rfl, hbel, hr⟩ := hrel
    by_cases hlt : k + 1 < l.length
    · obtain ⟨b, off, x, hA, hb, hx, q, rx⟩ := (H1.out.next hbel.out).elem (k := k) (by omega)
      obtain ⟨b', off', y, hA', hb', hy, p, ry⟩ := (H1.out.next hbel.out).elem hlt
      rw [hA] at hA'
      injection hA' with hA'
      injection hA' with h1 h2
      subst h1; subst h2
      subst hA
      obtain ⟨q0, q1, q2, q3, q4⟩ := q
      obtain ⟨p0, p1, p2, p3, p4⟩ := p
      have NX := Lib.hid (risG_next idLt l k hx hy)
      clear rx ry hx hy
      replace q0 := cell_regrown q0
      replace q1 := cell_regrown q1
      replace q2 := cell_regrown q2
      replace q3 := cell_regrown q3
      replace q4 := cell_regrown q4
      replace p0 := cell_regrown p0
      replace p1 := cell_regrown p1
      replace p2 := cell_regrown p2
      replace p3 := cell_regrown p3
      replace p4 := cell_regrown p4
      have i0 : (0 : Int) ≤ (k : Int) := by omega
      have i1 : (k : Int) + 1 < (l.length : Int) := by omega
      have i2 : (k : Int) < (l.length : Int) := by omega
      have i3 : IntKind.i64.wrap (k : Int) = (k : Int) := IntWalk.i64_in _ (by omega)
      have i4 : ((k : Int) + 1).toNat = k + 1 := by omega
      go_wp2_with fail
      refine wp_region_quiet_below (by kernel_rfl) (by kernel_rfl) ?_
      repeat (first | go_big_quiet_step (first | exact id_regrown _ x _ _ | exact id_regrown _ y _ _) | quiet_step (first | exact id_regrown _ x _ _ | exact id_regrown _ y _ _))
      refine wpQuiet_nil ?_
      intro _ hw'
      obtain ⟨⟨dq, osq⟩, hw''⟩ := hw'
      subst hw''
      have HB := Lib.hid (bnext hbel.out (below_regrown wr dq osq))
      clear q0 q1 q2 q3 q4 p0 p1 p2 p3 p4 i3 i4
      by_cases hlt0 : x.id < y.id
      · have D := Lib.hid (show idLt x y = true by unfold idLt; exact decide_eq_true hlt0)
        go_wp2
        go_roundw
        case rel => exact ⟨k + 1, by omega, by go_num, HB, Lib.hid (by rw [← hr.out, NX.out, D.out]; rfl)⟩
        case measure => simp [intOf]; omega
      · have D := Lib.hid (show idLt x y = false by unfold idLt; exact decide_eq_false hlt0)
        go_wp2
        go_ret
        exact ⟨by rw [← hr.out, NX.out, D.out]; rfl, HB.out⟩
    · have OUT := Lib.hid (risG_out idLt l k (by omega))
      go_wp2
      go_ret
      exact ⟨by rw [← hr.out, OUT.out]; rfl, hbel.out⟩
set_option maxHeartbeats 1600000 in
theorem areProps_any (w : World) (d : Nat) (A : Option Addr) (c : Nat) (l : List PA) (h : PRow w 0 d A c l) : Calls Try.prog 82 #[.slice A l.length c] w fun e w' => e = .returned (.bool (okPs l)) ∧ Below w.heap.size w w' := by
  have CT := Lib.hid (containsP80 w d A c l h (fun p => !okPr p) (Lib.hid (fun W p hb _ hx => notProp_any W d p hx)))
  have CR := Lib.hid (fun (W : World) (hb : Below w.heap.size w W) => risesP_any W d A c l (h.next hb))
  have HV : Hid (okPs l = (decide (l.length ≤ 30) && (l.all okPr && risG keyLt l))) := Lib.hid rfl
  clear h
  by_cases h1 : (l.length : Int) ≤ 30
  · have D := Lib.hid (show decide (l.length ≤ 30) = true from decide_eq_true (by omega))
    go_enter Try.func82, Try.ntmps82
    go_wp2_with fail
    refine CT.out.mono ?_
    rintro e w1 ⟨rfl, hb1⟩
    rw [any_notG]
    have HB := Lib.hid hb1
    clear hb1
    cases hq : l.all okPr
    · go_wp2
      go_ret
      exact ⟨by rw [HV.out, D.out, hq]; rfl, HB.out⟩
    · go_wp2_with fail
      refine (CR.out w1 HB.out).mono ?_
      rintro e w2 ⟨rfl, hb2⟩
      have B2 := Lib.hid (bnext HB.out hb2)
      clear hb2
      have HQ := Lib.hid hq
      clear hq
      generalize risG keyLt l = o at HV
      cases o
      all_goals
        go_wp2
        go_ret
        exact ⟨by rw [HV.out, D.out, HQ.out]; rfl, B2.out⟩
  · have D := Lib.hid (show decide (l.length ≤ 30) = false from decide_eq_false (by omega))
    go_enter Try.func82, Try.ntmps82
    go_wp2
    go_ret
    exact ⟨by rw [HV.out, D.out]; rfl, Below.refl _ _⟩
set_option maxHeartbeats 1600000 in
theorem isThing_any (w : World) (d : Nat) (t : TA) (h : PRow w 0 d t.A t.c t.l) : Calls Try.prog 75 #[t.v] w fun e w' => e = .returned (.bool (okTh t)) ∧ Below w.heap.size w w' := by
  have H := Lib.hid h
  have HT : Hid (okTh t = (decide (0 ≤ t.id) && (nameB t.label && okPs t.l))) := Lib.hid rfl
  clear h
  go_enter Try.func75, Try.ntmps75
  go_upto_region 1 with fail
  have k1 := CellT.new w (.int .i64 t.id) (.string t.label) (.int .i64 t.o) (.int .i64 t.i) (.slice t.A t.l.length t.c)
  generalize hW : World.alloc w _ = W at k1
  have HB : Hid (Below w.heap.size w W) := Lib.hid (by rw [← hW]; exact below_new _ _)
  clear hW
  obtain ⟨c0, c1, c2, c3, c4, _⟩ := k1
  by_cases h0 : 0 ≤ t.id
  · have D := Lib.hid (decide_eq_true h0)
    go_wp2_with fail
    refine (name_any t.label W).mono ?_
    rintro e w1 ⟨rfl, rfl⟩
    cases hn : nameB t.label
    · have HV : Hid (okTh t = false) := Lib.hid (by rw [HT.out, hn]; simp)
      go_wp2
      go_ret
      exact ⟨by rw [HV.out]; rfl, HB.out⟩
    · have HV : Hid (okTh t = okPs t.l) := Lib.hid (by rw [HT.out, hn, D.out]; simp)
      clear HT
      go_wp2_with fail
      refine (areProps_any W d t.A t.c t.l (H.out.next HB.out)).mono ?_
      rintro e w2 ⟨rfl, hb2⟩
      have B2 := Lib.hid (bnext HB.out hb2)
      clear hb2 c0 c1 c2 c3 c4
      go_wp2
      go_ret
      exact ⟨by rw [HV.out]; rfl, B2.out⟩
  · have HV : Hid (okTh t = false) := Lib.hid (by rw [HT.out]; simp [h0])
    go_wp2
    go_ret
    exact ⟨by rw [HV.out]; rfl, HB.out⟩
set_option maxHeartbeats 1600000 in
theorem notThing_any (w : World) (d : Nat) (t : TA) (h : PRow w 0 d t.A t.c t.l) : Calls Try.prog 74 #[t.v] w fun e w' => e = .returned (.bool (!okTh t)) ∧ Below w.heap.size w w' := by
  have H := Lib.hid h
  clear h
  go_enter Try.func74, Try.ntmps74
  go_upto_region 1 with fail
  have k1 := CellT.new w (.int .i64 t.id) (.string t.label) (.int .i64 t.o) (.int .i64 t.i) (.slice t.A t.l.length t.c)
  generalize hW : World.alloc w _ = W at k1
  have HB : Hid (Below w.heap.size w W) := Lib.hid (by rw [← hW]; exact below_new _ _)
  clear hW
  obtain ⟨c0, c1, c2, c3, c4, _⟩ := k1
  go_wp2_with fail
  refine (isThing_any W d t (H.out.next HB.out)).mono ?_
  rintro e w2 ⟨rfl, hb2⟩
  have B2 := Lib.hid (bnext HB.out hb2)
  clear hb2 c0 c1 c2 c3 c4
  go_wp2
  go_ret
  exact ⟨by rfl, B2.out⟩
set_option maxHeartbeats 1600000 in
theorem areThings_any (w : World) (d : Nat) (A : Option Addr) (c : Nat) (ts : List TA) (h : TRow w d A c ts) (most : Nat) (_hm : most ≤ 100000) : Calls Try.prog 59 #[.slice A ts.length c, .int .i64 (most : Int)] w fun e w' => e = .returned (.bool (okThs most ts)) ∧ Below w.heap.size w w' := by
  have CT := Lib.hid (containsT67 w d A c ts h (fun t => !okTh t) (Lib.hid (fun W t hb hm hx => notThing_any W d t hx)))
  have CR := Lib.hid (fun (W : World) (hb : Below w.heap.size w W) => risesT_any W d A c ts (h.next hb))
  have HV : Hid (okThs most ts = (decide (ts.length ≤ most) && (ts.all okTh && risG idLt ts))) := Lib.hid rfl
  clear h
  by_cases h1 : ts.length ≤ most
  · have D := Lib.hid (show decide (ts.length ≤ most) = true from decide_eq_true h1)
    have h2 : (ts.length : Int) ≤ (most : Int) := by omega
    go_enter Try.func59, Try.ntmps59
    go_wp2_with fail
    refine CT.out.mono ?_
    rintro e w1 ⟨rfl, hb1⟩
    rw [any_notG]
    have HB := Lib.hid hb1
    clear hb1
    cases hq : ts.all okTh
    · go_wp2
      go_ret
      exact ⟨by rw [HV.out, D.out, hq]; rfl, HB.out⟩
    · go_wp2_with fail
      refine (CR.out w1 HB.out).mono ?_
      rintro e w2 ⟨rfl, hb2⟩
      have B2 := Lib.hid (bnext HB.out hb2)
      clear hb2
      have HQ := Lib.hid hq
      clear hq
      generalize risG idLt ts = o at HV
      cases o
      all_goals
        go_wp2
        go_ret
        exact ⟨by rw [HV.out, D.out, HQ.out]; rfl, B2.out⟩
  · have D := Lib.hid (show decide (ts.length ≤ most) = false from decide_eq_false h1)
    have h2 : ¬ (ts.length : Int) ≤ (most : Int) := by omega
    go_enter Try.func59, Try.ntmps59
    go_wp2
    go_ret
    exact ⟨by rw [HV.out, D.out]; rfl, Below.refl _ _⟩
end Go.Proofs.Ytebkkjfeikpfgaa

