/- Carried over from an earlier seat. -/
import Derived.Test.YtllkimdlmnjoiaaGreatDoorVE
import Derived.Lib.QuietBelow
import Derived.BigQuiet
import Derived.Deep.OwnRows
import Derived.Laws.Rows
import Derived.OwnWalk
import Derived.Deep.RegionWith
import Derived.Deep.DrawnRows
import Derived.Deep.DeepCutAuto
namespace Go.Proofs.YtllkimdlmnjoiaaGreatDoor
set_option maxRecDepth 100000
set_option maxRecDepth 100000
set_option maxRecDepth 100000
set_option maxRecDepth 100000
set_option maxRecDepth 100000
open Go.RowKit Go.Sort

/-- Where the first is of which p holds, or -1. -/
def idxP (p : V → Bool) : List V → Nat → Int
  | [], _ => -1
  | x :: r, k => if p x then k else idxP p r (k + 1)
theorem idxP_yes (p : V → Bool) (l : List V) (k : Nat) {x : V} (hx : l[k]? = some x) (h : p x = true) : idxP p (l.drop k) k = k := by
  obtain ⟨h1, e1⟩ := List.getElem?_eq_some_iff.1 hx
  rw [List.drop_eq_getElem_cons h1, e1]; simp [idxP, h]
theorem idxP_no (p : V → Bool) (l : List V) (k : Nat) {x : V} (hx : l[k]? = some x) (h : p x = false) : idxP p (l.drop k) k = idxP p (l.drop (k + 1)) (k + 1) := by
  obtain ⟨h1, e1⟩ := List.getElem?_eq_some_iff.1 hx
  rw [List.drop_eq_getElem_cons h1, e1]; simp [idxP, h]
theorem idxP_out (p : V → Bool) (l : List V) (k j : Nat) (h : l.length ≤ k) : idxP p (l.drop k) j = -1 := by rw [List.drop_eq_nil_of_le h]; rfl
theorem idxP_range (p : V → Bool) : ∀ (l : List V) (k : Nat), idxP p l k = -1 ∧ l.any p = false ∨ ((k : Int) ≤ idxP p l k ∧ idxP p l k < (k : Int) + l.length ∧ l.any p = true)
  | [], _ => .inl ⟨rfl, rfl⟩
  | x :: r, k => by
    by_cases h : p x = true
    · right; simp [idxP, h]; omega
    · have h' : p x = false := by simpa using h
      rcases idxP_range p r (k + 1) with ⟨e, a⟩ | ⟨e1, e2, a⟩
      · left; simp [idxP, h', e, a]
      · right; simp only [idxP, h', List.any_cons, a, List.length_cons]; simp; omega

/-- A closure that asks p of a value, in every world in which all that lay in w lies unturned. -/
def Preds (F : Nat) (cap : Value) (w : World) (p : V → Bool) : Prop :=
  ∀ (W : World) (d : Nat) (a : V) (A : Option Addr) (c : Nat) (A' : Option Addr) (c' : Nat), Below w.heap.size w W → Rd W 0 W.heap.size d a A c A' c' →
    Calls Tryz.prog F #[vl a A c A' c', cap] W fun x w' => x = .returned (.bool (p a)) ∧ Below W.heap.size W w'

set_option maxHeartbeats 1600000 in
theorem indexFunc55 (p : V → Bool) (g : Nat) (w : World) (hcl : Preds 145 (.pointer (some ⟨g, 0, none⟩)) w p) (d : Nat) (A : Option Addr) (c : Nat) (l : List V) (h : Rw w 0 w.heap.size d A c l) :
    Calls Tryz.prog 163 #[.slice A l.length c, .func (.func 145) #[] #[.pointer (some ⟨g, 0, none⟩)]] w fun e w' => e = .returned (.int .i64 (idxP p l 0)) ∧ Below w.heap.size w w' := by
  have HC := Lib.hid hcl
  have H1 := Lib.hid h
  have b1 := h.big
  clear hcl h
  go_enter Tryz.func163, Tryz.ntmps163
  go_wp2
  go_loopw [8] (fun i wr => ∃ k : Nat, k ≤ l.length ∧ i = .int .i64 k ∧ Hid (Below w.heap.size w wr) ∧ Hid (idxP p (l.drop k) k = idxP p l 0)) (fun i _ => l.length - (intOf i).toNat)
  case atStart => exact ⟨0, by omega, rfl, Lib.hid (Below.refl _ _), Lib.hid (by simp)⟩
  case round =>
    obtain ⟨k, hk, rfl, hbel, hr⟩ := hrel
    by_cases hlt : k < l.length
    · obtain ⟨b, off, x, A1, c1, A2, c2, rfl, _, hb, hx, q, rx⟩ := (H1.out.next hbel.out).elem hlt
      obtain ⟨q0, q1, q2, q3, q4⟩ := q
      have RX := Lib.hid rx
      have Y := Lib.hid (idxP_yes p l k hx)
      have N := Lib.hid (idxP_no p l k hx)
      clear rx hx
      go_wp2_with fail
      refine (HC.out _ _ x _ _ _ _ hbel.out RX.out).mono ?_
      rintro e w1 ⟨rfl, hb1⟩
      have HB := Lib.hid (bnext hbel.out hb1)
      clear hb1
      cases hp : p x
      · go_wp2
        go_roundw
        case rel => exact ⟨k + 1, by omega, by go_num, HB, Lib.hid (by rw [← hr.out, N.out hp])⟩
        case measure => simp [intOf]; omega
      · go_wp2
        go_ret
        exact ⟨by rw [← hr.out, Y.out hp]; rfl, HB.out⟩
    · have OUT := Lib.hid (idxP_out p l k k (by omega))
      go_wp2
      go_ret
      exact ⟨by rw [← hr.out, OUT.out]; rfl, hbel.out⟩

set_option maxHeartbeats 800000 in
theorem containsFunc55 (p : V → Bool) (g : Nat) (w : World) (hcl : Preds 145 (.pointer (some ⟨g, 0, none⟩)) w p) (d : Nat) (A : Option Addr) (c : Nat) (l : List V) (h : Rw w 0 w.heap.size d A c l) :
    Calls Tryz.prog 146 #[.slice A l.length c, .func (.func 145) #[] #[.pointer (some ⟨g, 0, none⟩)]] w fun e w' => e = .returned (.bool (l.any p)) ∧ Below w.heap.size w w' := by
  have CT := Lib.hid (indexFunc55 p g w hcl d A c l h)
  have R := Lib.hid (idxP_range p l 0)
  clear hcl h
  go_enter Tryz.func146, Tryz.ntmps146
  go_wp2_with fail
  refine CT.out.mono ?_
  rintro e w1 ⟨rfl, hb1⟩
  have HB := Lib.hid hb1
  clear hb1
  go_wp2
  go_ret
  refine ⟨?_, HB.out⟩
  show Ending.returned (.bool (decide (0 ≤ idxP p l 0))) = _
  rcases R.out with ⟨e, a⟩ | ⟨e1, e2, a⟩
  · rw [a, e]; rfl
  · rw [a, decide_eq_true (by omega)]

theorem cmp_regrown {w : World} {da db : Nat} {a b : V} {A : Option Addr} {c : Nat} {A' : Option Addr} {c' : Nat} {D : Option Addr} {e : Nat} {D' : Option Addr} {e' : Nat}
    (ra : Rd w 0 w.heap.size da a A c A' c') (rb : Rd w 0 w.heap.size db b D e D' e') (d : Nat) (os : Array Obj) :
    Calls Tryz.prog 141 #[vl a A c A' c', vl b D e D' e'] (grow (redrawn w d) os) fun x w'' => x = .returned (.int .i64 (cmpV 12 a b)) ∧ ∃ p : Regrown, w'' = grow (redrawn w p.d) p.os :=
  Calls.regrown_of (cmp_any _ da db a b _ _ _ _ _ _ _ _ (ra.next (below_regrown w d os)) (rb.next (below_regrown w d os)))

/-- Each stands ahead of the next one. -/
def risesV : List V → Bool
  | x :: y :: r => decide (cmpV 12 x y < 0) && risesV (y :: r)
  | _ => true
theorem rises_next (l : List V) (k : Nat) {x y : V} (hx : l[k]? = some x) (hy : l[k + 1]? = some y) : risesV (l.drop k) = (decide (cmpV 12 x y < 0) && risesV (l.drop (k + 1))) := by
  obtain ⟨h1, e1⟩ := List.getElem?_eq_some_iff.1 hx
  obtain ⟨h2, e2⟩ := List.getElem?_eq_some_iff.1 hy
  rw [List.drop_eq_getElem_cons h1, e1, List.drop_eq_getElem_cons h2, e2]; rfl
theorem rises_out (l : List V) (k : Nat) (h : l.length ≤ k + 1) : risesV (l.drop k) = true := by
  have : (l.drop k).length ≤ 1 := by rw [List.length_drop]; omega
  match l.drop k, this with
  | [], _ => rfl
  | [_], _ => rfl

set_option maxHeartbeats 1600000 in
theorem rises_any (w : World) (d : Nat) (A : Option Addr) (c : Nat) (l : List V) (h : Rw w 0 w.heap.size d A c l) :
    Calls Tryz.prog 147 #[.slice A l.length c] w fun e w' => e = .returned (.bool (risesV l)) ∧ Below w.heap.size w w' := by
  have H1 := Lib.hid h
  have b1 := h.big
  clear h
  go_enter Tryz.func147, Tryz.ntmps147
  go_wp2
  go_loopw [3] (fun i wr => ∃ k : Nat, k ≤ l.length ∧ i = .int .i64 ((k : Int) + 1) ∧ Hid (Below w.heap.size w wr) ∧ Hid (risesV (l.drop k) = risesV l)) (fun i _ => l.length + 1 - (intOf i).toNat)
  case atStart => exact ⟨0, by omega, rfl, Lib.hid (Below.refl _ _), Lib.hid (by simp)⟩
  case round =>
    obtain ⟨k, hk, rfl, hbel, hr⟩ := hrel
    by_cases hlt : k + 1 < l.length
    · obtain ⟨b, off, x, A1, c1, A2, c2, hA, _, hb, hx, q, rx⟩ := (H1.out.next hbel.out).elem (k := k) (by omega)
      obtain ⟨b', off', y, D1, e1, D2, e2, hA', _, hb', hy, p, ry⟩ := (H1.out.next hbel.out).elem hlt
      rw [hA] at hA'
      injection hA' with hA'
      injection hA' with h1 h2
      subst h1; subst h2
      subst hA
      obtain ⟨q0, q1, q2, q3, q4⟩ := q
      obtain ⟨p0, p1, p2, p3, p4⟩ := p
      have cQ := Lib.hid (cmp_regrown rx ry)
      have NX := Lib.hid (rises_next l k hx hy)
      clear rx ry hx hy
      replace q0 := cell_regrown q0
      replace q1 := cell_regrown q1
      replace q2 := cell_regrown q2
      replace q3 := cell_regrown q3
      replace q4 := cell_regrown q4
      replace p0 := cell_regrown p0
      replace p1 := cell_regrown p1
      replace p2 := cell_regrown p2
      replace p3 := cell_regrown p3
      replace p4 := cell_regrown p4
      have i0 : (0 : Int) ≤ (k : Int) := by omega
      have i1 : (k : Int) + 1 < (l.length : Int) := by omega
      have i2 : (k : Int) < (l.length : Int) := by omega
      have i3 : IntKind.i64.wrap (k : Int) = (k : Int) := IntWalk.i64_in _ (by omega)
      have i4 : ((k : Int) + 1).toNat = k + 1 := by omega
      go_wp2_with fail
      refine wp_region_quiet_below (by kernel_rfl) (by kernel_rfl) ?_
      repeat (first | go_big_quiet_step (exact cQ.out _ _) | quiet_step (exact cQ.out _ _))
      refine wpQuiet_nil ?_
      intro _ hw'
      obtain ⟨⟨dq, osq⟩, hw''⟩ := hw'
      subst hw''
      have HB := Lib.hid (bnext hbel.out (below_regrown wr dq osq))
      clear q0 q1 q2 q3 q4 p0 p1 p2 p3 p4 i3 i4
      by_cases hlt0 : cmpV 12 x y < 0
      · have D := Lib.hid (decide_eq_true hlt0)
        go_wp2
        go_roundw
        case rel => exact ⟨k + 1, by omega, by go_num, HB, Lib.hid (by rw [← hr.out, NX.out, D.out]; rfl)⟩
        case measure => simp [intOf]; omega
      · have D := Lib.hid (decide_eq_false hlt0)
        go_wp2
        go_ret
        exact ⟨by rw [← hr.out, NX.out, D.out]; rfl, HB.out⟩
    · have OUT := Lib.hid (rises_out l k (by omega))
      go_wp2
      go_ret
      exact ⟨by rw [← hr.out, OUT.out]; rfl, hbel.out⟩
end Go.Proofs.YtllkimdlmnjoiaaGreatDoor

namespace Go.Proofs.YtllkimdlmnjoiaaGreatDoor
set_option maxRecDepth 100000
set_option maxRecDepth 100000
set_option maxRecDepth 100000
set_option maxRecDepth 100000
set_option maxRecDepth 100000
open Go.RowKit

/-- The copy of a value, r levels above the last one. -/
def copyV : Nat → V → V
  | 0, t => .mk t.k t.n t.s [] []
  | r + 1, t => .mk t.k t.n t.s (t.l.map (copyV r)) (t.m.map (copyV r))

/-- A block of values that is known whole. -/
def Blk (w : World) (g n : Nat) : Prop := ∃ cs : Array Value, w.heap[g]? = some (.cells cs 77 (0, 0)) ∧ cs.size = n * 5
theorem Blk.lt {w : World} {g n : Nat} (h : Blk w g n) : g < w.heap.size := by
  obtain ⟨cs, h, _⟩ := h
  exact (Array.getElem?_eq_some_iff.1 h).1
theorem Blk.kept {w w' : World} {g n : Nat} (h : Blk w g n) (hk : w'.heap[g]? = w.heap[g]?) : Blk w' g n := by
  obtain ⟨cs, h, hs⟩ := h
  exact ⟨cs, hk.trans h, hs⟩
/-- A row whose memory is its owner's. -/
def Mine (w : World) (A : Option Addr) (n : Nat) : Prop := 0 < n → ∃ g, A = some ⟨g, 0, none⟩ ∧ Blk w g n
/-- Five cells written, one behind the other. -/
abbrev put5 (w : World) (g o : Nat) (v0 v1 v2 v3 v4 : Value) : World :=
  ((((w.setCell ⟨g, o, none⟩ v0).setCell ⟨g, o + 1, none⟩ v1).setCell ⟨g, o + 2, none⟩ v2).setCell ⟨g, o + 3, none⟩ v3).setCell ⟨g, o + 4, none⟩ v4
/-- What a maker hands on: a value in new memory. -/
def New (w : World) (d : Nat) (t : V) (e : Ending) (w' : World) : Prop :=
  ∃ A c A' c', e = .returned (vl t A c A' c') ∧ Rd w' w.heap.size w'.heap.size d t A c A' c' ∧ Mine w' A t.l.length ∧ Mine w' A' t.m.length ∧ Below w.heap.size w w'
def NewRow (w : World) (d : Nat) (l : List V) (e : Ending) (w' : World) : Prop :=
  ∃ A c, e = .returned (.slice A l.length c) ∧ Rw w' w.heap.size w'.heap.size d A c l ∧ Mine w' A l.length ∧ Below w.heap.size w w'

/-- A row of n values that are nothing. -/
def zrow (n : Nat) : Array Value := madeCells #[.int .i64 0, .int .i64 0, .string ⟨#[]⟩, .slice none 0 0, .slice none 0 0] (n * 5)
/-- So far as a row of copies is filled. -/
structure Fill (w : World) (g n d : Nat) (done : List V) : Prop where
  blk : Blk w g n
  el : ∀ j t, done[j]? = some t → ∃ A1 c1 A2 c2, cells5 w g (j * 5) t A1 c1 A2 c2 ∧ Rd w (g + 1) w.heap.size d t A1 c1 A2 c2

end Go.Proofs.YtllkimdlmnjoiaaGreatDoor

namespace Go.Proofs.YtllkimdlmnjoiaaGreatDoor
set_option maxRecDepth 100000
set_option maxRecDepth 100000
set_option maxRecDepth 100000
set_option maxRecDepth 100000
set_option maxRecDepth 100000
open Go.RowKit
attribute [local go_sem ↓] Go.wp_at_zero Go.wp_at_succ

/-- A box of one value that is the call's own. -/
structure Cell (w : World) (g : Nat) (v0 v1 v2 v3 v4 : Value) : Prop where
  c0 : w.cell? ⟨g, 0, none⟩ = some v0
  c1 : w.cell? ⟨g, 1, none⟩ = some v1
  c2 : w.cell? ⟨g, 2, none⟩ = some v2
  c3 : w.cell? ⟨g, 3, none⟩ = some v3
  c4 : w.cell? ⟨g, 4, none⟩ = some v4
  f0 : w.frozen? ⟨g, 0, none⟩ = false
  f1 : w.frozen? ⟨g, 1, none⟩ = false
  f2 : w.frozen? ⟨g, 2, none⟩ = false
  f3 : w.frozen? ⟨g, 3, none⟩ = false
  f4 : w.frozen? ⟨g, 4, none⟩ = false
  blk : Blk w g 1
theorem Cell.new (w : World) (v0 v1 v2 v3 v4 : Value) : Cell (w.alloc (.cells #[v0, v1, v2, v3, v4] 77)) w.heap.size v0 v1 v2 v3 v4 := by
  have hb : (w.alloc (.cells #[v0, v1, v2, v3, v4] 77)).heap[w.heap.size]? = some (.cells #[v0, v1, v2, v3, v4] 77 (0, 0)) := heap_alloc_new w _
  constructor
  all_goals first | exact ⟨_, hb, rfl⟩ | (rw [World.cell?_alloc_at _ _ _ _ rfl]; rfl) | (unfold World.frozen?; rw [hb]; simp)
theorem Cell.kept {w w' : World} {g : Nat} {v0 v1 v2 v3 v4 : Value} (h : Cell w g v0 v1 v2 v3 v4) (hk : w'.heap[g]? = w.heap[g]?) : Cell w' g v0 v1 v2 v3 v4 := by
  have hc := fun (o : Nat) => World.cell?_of_block (w := w) (w' := w') (a := ⟨g, o, none⟩) hk
  have hf := fun (o : Nat) => World.frozen?_of_block (w := w) (w' := w') (a := ⟨g, o, none⟩) hk
  exact ⟨(hc 0).trans h.c0, (hc 1).trans h.c1, (hc 2).trans h.c2, (hc 3).trans h.c3, (hc 4).trans h.c4, (hf 0).trans h.f0, (hf 1).trans h.f1, (hf 2).trans h.f2, (hf 3).trans h.f3, (hf 4).trans h.f4, h.blk.kept hk⟩
theorem Cell.below {w w' : World} {B g : Nat} {v0 v1 v2 v3 v4 : Value} (h : Cell w g v0 v1 v2 v3 v4) (hb : Below B w w') (hg : g < B) : Cell w' g v0 v1 v2 v3 v4 := h.kept (hb.block g hg)

end Go.Proofs.YtllkimdlmnjoiaaGreatDoor






