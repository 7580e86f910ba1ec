/- Carried over from an earlier seat. -/
import Derived.Test.YtllkimdlmnjoiaaGreatDoorVE
import Derived.Lib.QuietBelow
import Derived.BigQuiet
import Derived.Deep.OwnRows
import Derived.Laws.Rows
import Derived.OwnWalk
import Derived.Deep.RegionWith
import Derived.Deep.DrawnRows
import Derived.Deep.DeepCutAuto
namespace Go.Proofs.YtllkimdlmnjoiaaGreatDoor
set_option maxRecDepth 100000
set_option maxRecDepth 100000
set_option maxRecDepth 100000
set_option maxRecDepth 100000
set_option maxRecDepth 100000
open Go.RowKit Go.Sort

/-- Where the first is of which p holds, or -1. -/
def idxP (p : V → Bool) : List V → Nat → Int
  | [], _ => -1
  | x :: r, k => if p x then k else idxP p r (k + 1)
theorem idxP_yes (p : V → Bool) (l : List V) (k : Nat) {x : V} (hx : l[k]? = some x) (h : p x = true) : idxP p (l.drop k) k = k := by
  obtain ⟨h1, e1⟩ := List.getElem?_eq_some_iff.1 hx
  rw [List.drop_eq_getElem_cons h1, e1]; simp [idxP, h]
theorem idxP_no (p : V → Bool) (l : List V) (k : Nat) {x : V} (hx : l[k]? = some x) (h : p x = false) : idxP p (l.drop k) k = idxP p (l.drop (k + 1)) (k + 1) := by
  obtain ⟨h1, e1⟩ := List.getElem?_eq_some_iff.1 hx
  rw [List.drop_eq_getElem_cons h1, e1]; simp [idxP, h]
theorem idxP_out (p : V → Bool) (l : List V) (k j : Nat) (h : l.length ≤ k) : idxP p (l.drop k) j = -1 := by rw [List.drop_eq_nil_of_le h]; rfl
theorem idxP_range (p : V → Bool) : ∀ (l : List V) (k : Nat), idxP p l k = -1 ∧ l.any p = false ∨ ((k : Int) ≤ idxP p l k ∧ idxP p l k < (k : Int) + l.length ∧ l.any p = true)
  | [], _ => .inl ⟨rfl, rfl⟩
  | x :: r, k => by
    by_cases h : p x = true
    · right; simp [idxP, h]; omega
    · have h' : p x = false := by simpa using h
      rcases idxP_range p r (k + 1) with ⟨e, a⟩ | ⟨e1, e2, a⟩
      · left; simp [idxP, h', e, a]
      · right; simp only [idxP, h', List.any_cons, a, List.length_cons]; simp; omega

/-- A closure that asks p of a value, in every world in which all that lay in w lies unturned. -/
def Preds (F : Nat) (cap : Value) (w : World) (p : V → Bool) : Prop :=
  ∀ (W : World) (d : Nat) (a : V) (A : Option Addr) (c : Nat) (A' : Option Addr) (c' : Nat), Below w.heap.size w W → Rd W 0 W.heap.size d a A c A' c' →
    Calls Tryz.prog F #[vl a A c A' c', cap] W fun x w' => x = .returned (.bool (p a)) ∧ Below W.heap.size W w'

set_option maxHeartbeats 1600000 in
theorem indexFunc55 (p : V → Bool) (g : Nat) (w : World) (hcl : Preds 145 (.pointer (some ⟨g, 0, none⟩)) w p) (d : Nat) (A : Option Addr) (c : Nat) (l : List V) (h : Rw w 0 w.heap.size d A c l) :
    Calls Tryz.prog 163 #[.slice A l.length c, .func (.func 145) #[] #[.pointer (some ⟨g, 0, none⟩)]] w fun e w' => e = .returned (.int .i64 (idxP p l 0)) ∧ Below w.heap.size w w' := by
  have HC := Lib.hid hcl
  have H1 := Lib.hid h
  have b1 := h.big
  clear hcl h
  go_enter Tryz.func163, Tryz.ntmps163
  go_wp2
  go_loopw [8] (fun i wr => ∃ k : Nat, k ≤ l.length ∧ i = .int .i64 k ∧ Hid (Below w.heap.size w wr) ∧ Hid (idxP p (l.drop k) k = idxP p l 0)) (fun i _ => l.length - (intOf i).toNat)
  case atStart => exact ⟨0, by omega, rfl, Lib.hid (Below.refl _ _), Lib.hid (by simp)⟩
  case round =>
    obtain ⟨k, hk, rfl, hbel, hr⟩ := hrel
    by_cases hlt : k < l.length
    · obtain ⟨b, off, x, A1, c1, A2, c2, rfl, _, hb, hx, q, rx⟩ := (H1.out.next hbel.out).elem hlt
      obtain ⟨q0, q1, q2, q3, q4⟩ := q
      have RX := Lib.hid rx
      have Y := Lib.hid (idxP_yes p l k hx)
      have N := Lib.hid (idxP_no p l k hx)
      clear rx hx
      go_wp2_with fail
      refine (HC.out _ _ x _ _ _ _ hbel.out RX.out).mono ?_
      rintro e w1 ⟨rfl, hb1⟩
      have HB := Lib.hid (bnext hbel.out hb1)
      clear hb1
      cases hp : p x
      · go_wp2
        go_roundw
        case rel => exact ⟨k + 1, by omega, by go_num, HB, Lib.hid (by rw [← hr.out, N.out hp])⟩
        case measure => simp [intOf]; omega
      · go_wp2
        go_ret
        exact ⟨by rw [← hr.out, Y.out hp]; rfl, HB.out⟩
    · have OUT := Lib.hid (idxP_out p l k k (by omega))
      go_wp2
      go_ret
      exact ⟨by rw [← hr.out, OUT.out]; rfl, hbel.out⟩

set_option maxHeartbeats 800000 in
theorem containsFunc55 (p : V → Bool) (g : Nat) (w : World) (hcl : Preds 145 (.pointer (some ⟨g, 0, none⟩)) w p) (d : Nat) (A : Option Addr) (c : Nat) (l : List V) (h : Rw w 0 w.heap.size d A c l) :
    Calls Tryz.prog 146 #[.slice A l.length c, .func (.func 145) #[] #[.pointer (some ⟨g, 0, none⟩)]] w fun e w' => e = .returned (.bool (l.any p)) ∧ Below w.heap.size w w' := by
  have CT := Lib.hid (indexFunc55 p g w hcl d A c l h)
  have R := Lib.hid (idxP_range p l 0)
  clear hcl h
  go_enter Tryz.func146, Tryz.ntmps146
  go_wp2_with fail
  refine CT.out.mono ?_
  rintro e w1 ⟨rfl, hb1⟩
  have HB := Lib.hid hb1
  clear hb1
  go_wp2
  go_ret
  refine ⟨?_, HB.out⟩
  show Ending.returned (.bool (decide (0 ≤ idxP p l 0))) = _
  rcases R.out with ⟨e, a⟩ | ⟨e1, e2, a⟩
  · rw [a, e]; rfl
  · rw [a, decide_eq_true (by omega)]

theorem cmp_regrown {w : World} {da db : Nat} {a b : V} {A : Option Addr} {c : Nat} {A' : Option Addr} {c' : Nat} {D : Option Addr} {e : Nat} {D' : Option Addr} {e' : Nat}
    (ra : Rd w 0 w.heap.size da a A c A' c') (rb : Rd w 0 w.heap.size db b D e D' e') (d : Nat) (os : Array Obj) :
    Calls Tryz.prog 141 #[vl a A c A' c', vl b D e D' e'] (grow (redrawn w d) os) fun x w'' => x = .returned (.int .i64 (cmpV 12 a b)) ∧ ∃ p : Regrown, w'' = grow (redrawn w p.d) p.os :=
  Calls.regrown_of (cmp_any _ da db a b _ _ _ _ _ _ _ _ (ra.next (below_regrown w d os)) (rb.next (below_regrown w d os)))

/-- Each stands ahead of the next one. -/
def risesV : List V → Bool
  | x :: y :: r => decide (cmpV 12 x y < 0) && risesV (y :: r)
  | _ => true
theorem rises_next (l : List V) (k : Nat) {x y : V} (hx : l[k]? = some x) (hy : l[k + 1]? = some y) : risesV (l.drop k) = (decide (cmpV 12 x y < 0) && risesV (l.drop (k + 1))) := by
  obtain ⟨h1, e1⟩ := List.getElem?_eq_some_iff.1 hx
  obtain ⟨h2, e2⟩ := List.getElem?_eq_some_iff.1 hy
  rw [List.drop_eq_getElem_cons h1, e1, List.drop_eq_getElem_cons h2, e2]; rfl
theorem rises_out (l : List V) (k : Nat) (h : l.length ≤ k + 1) : risesV (l.drop k) = true := by
  have : (l.drop k).length ≤ 1 := by rw [List.length_drop]; omega
  match l.drop k, this with
  | [], _ => rfl
  | [_], _ => rfl

set_option maxHeartbeats 1600000 in
theorem rises_any (w : World) (d : Nat) (A : Option Addr) (c : Nat) (l : List V) (h : Rw w 0 w.heap.size d A c l) :
    Calls Tryz.prog 147 #[.slice A l.length c] w fun e w' => e = .returned (.bool (risesV l)) ∧ Below w.heap.size w w' := by
  have H1 := Lib.hid h
  have b1 := h.big
  clear h
  go_enter Tryz.func147, Tryz.ntmps147
  go_wp2
  go_loopw [3] (fun i wr => ∃ k : Nat, k ≤ l.length ∧ i = .int .i64 ((k : Int) + 1) ∧ Hid (Below w.heap.size w wr) ∧ Hid (risesV (l.drop k) = risesV l)) (fun i _ => l.length + 1 - (intOf i).toNat)
  case atStart => exact ⟨0, by omega, rfl, Lib.hid (Below.refl _ _), Lib.hid (by simp)⟩
  case round =>
    obtain ⟨k, hk, rfl, hbel, hr⟩ := hrel
    by_cases hlt : k + 1 < l.length
    · obtain ⟨b, off, x, A1, c1, A2, c2, hA, _, hb, hx, q, rx⟩ := (H1.out.next hbel.out).elem (k := k) (by omega)
      obtain ⟨b', off', y, D1, e1, D2, e2, hA', _, hb', hy, p, ry⟩ := (H1.out.next hbel.out).elem hlt
      rw [hA] at hA'
      injection hA' with hA'
      injection hA' with h1 h2
      subst h1; subst h2
      subst hA
      obtain ⟨q0, q1, q2, q3, q4⟩ := q
      obtain ⟨p0, p1, p2, p3, p4⟩ := p
      have cQ := Lib.hid (cmp_regrown rx ry)
      have NX := Lib.hid (rises_next l k hx hy)
      clear rx ry hx hy
      replace q0 := cell_regrown q0
      replace q1 := cell_regrown q1
      replace q2 := cell_regrown q2
      replace q3 := cell_regrown q3
      replace q4 := cell_regrown q4
      replace p0 := cell_regrown p0
      replace p1 := cell_regrown p1
      replace p2 := cell_regrown p2
      replace p3 := cell_regrown p3
      replace p4 := cell_regrown p4
      have i0 : (0 : Int) ≤ (k : Int) := by omega
      have i1 : (k : Int) + 1 < (l.length : Int) := by omega
      have i2 : (k : Int) < (l.length : Int) := by omega
      have i3 : IntKind.i64.wrap (k : Int) = (k : Int) := IntWalk.i64_in _ (by omega)
      have i4 : ((k : Int) + 1).toNat = k + 1 := by omega
      go_wp2_with fail
      refine wp_region_quiet_below (by kernel_rfl) (by kernel_rfl) ?_
      repeat (first | go_big_quiet_step (exact cQ.out _ _) | quiet_step (exact cQ.out _ _))
      refine wpQuiet_nil ?_
      intro _ hw'
      obtain ⟨⟨dq, osq⟩, hw''⟩ := hw'
      subst hw''
      have HB := Lib.hid (bnext hbel.out (below_regrown wr dq osq))
      clear q0 q1 q2 q3 q4 p0 p1 p2 p3 p4 i3 i4
      by_cases hlt0 : cmpV 12 x y < 0
      · have D := Lib.hid (decide_eq_true hlt0)
        go_wp2
        go_roundw
        case rel => exact ⟨k + 1, by omega, by go_num, HB, Lib.hid (by rw [← hr.out, NX.out, D.out]; rfl)⟩
        case measure => simp [intOf]; omega
      · have D := Lib.hid (decide_eq_false hlt0)
        go_wp2
        go_ret
        exact ⟨by rw [← hr.out, NX.out, D.out]; rfl, HB.out⟩
    · have OUT := Lib.hid (rises_out l k (by omega))
      go_wp2
      go_ret
      exact ⟨by rw [← hr.out, OUT.out]; rfl, hbel.out⟩
end Go.Proofs.YtllkimdlmnjoiaaGreatDoor

namespace Go.Proofs.YtllkimdlmnjoiaaGreatDoor
set_option maxRecDepth 100000
set_option maxRecDepth 100000
set_option maxRecDepth 100000
set_option maxRecDepth 100000
set_option maxRecDepth 100000
open Go.RowKit

/-- The copy of a value, r levels above the last one. -/
def copyV : Nat → V → V
  | 0, t => .mk t.k t.n t.s [] []
  | r + 1, t => .mk t.k t.n t.s (t.l.map (copyV r)) (t.m.map (copyV r))

/-- A block of values that is known whole. -/
def Blk (w : World) (g n : Nat) : Prop := ∃ cs : Array Value, w.heap[g]? = some (.cells cs 77 (0, 0)) ∧ cs.size = n * 5
theorem Blk.lt {w : World} {g n : Nat} (h : Blk w g n) : g < w.heap.size := by
  obtain ⟨cs, h, _⟩ := h
  exact (Array.getElem?_eq_some_iff.1 h).1
theorem Blk.cell {w : World} {g n : Nat} (h : Blk w g n) {i : Nat} (hi : i < n * 5) : ∃ v, w.cell? ⟨g, i, none⟩ = some v := by
  obtain ⟨cs, h, hs⟩ := h
  exact ⟨cs[i], by rw [cell_of_row w g i cs 77 (0, 0) h]; exact Array.getElem?_eq_getElem (by omega)⟩
theorem Blk.frozen {w : World} {g n : Nat} (h : Blk w g n) (i : Nat) : w.frozen? ⟨g, i, none⟩ = false := by
  obtain ⟨cs, h, _⟩ := h
  simp [World.frozen?, h]
theorem Blk.kept {w w' : World} {g n : Nat} (h : Blk w g n) (hk : w'.heap[g]? = w.heap[g]?) : Blk w' g n := by
  obtain ⟨cs, h, hs⟩ := h
  exact ⟨cs, hk.trans h, hs⟩
theorem Blk.below {w w' : World} {B g n : Nat} (h : Blk w g n) (hb : Below B w w') (hg : g < B) : Blk w' g n := h.kept (hb.block g hg)
theorem Blk.set {w : World} {g n : Nat} (h : Blk w g n) (p : Addr) (u : Value) (hp : p.spot = none) : Blk (w.setCell p u) g n := by
  by_cases e : g = p.block
  · obtain ⟨cs, h, hs⟩ := h
    refine ⟨cs.setIfInBounds p.off u, ?_, by simpa using hs⟩
    subst e
    obtain ⟨b, o, s⟩ := p
    obtain rfl : s = none := hp
    simp [World.setCell, Array.getElem?_modify, h]
  · exact h.kept (Below.heap_setCell w p u g e)

/-- A row whose memory is its owner's. -/
def Mine (w : World) (A : Option Addr) (n : Nat) : Prop := 0 < n → ∃ g, A = some ⟨g, 0, none⟩ ∧ Blk w g n
theorem Mine.kept {w w' : World} {lo B : Nat} {A : Option Addr} {n : Nat} (h : Mine w A n) (hA : ∀ g, A = some ⟨g, 0, none⟩ → lo ≤ g ∧ g < B) (hk : Kept lo B w w') : Mine w' A n := fun h0 => by
  obtain ⟨g, e, hb⟩ := h h0
  exact ⟨g, e, hb.kept (hk g (hA g e).1 (hA g e).2)⟩

/-- Five cells written, one behind the other. -/
abbrev put5 (w : World) (g o : Nat) (v0 v1 v2 v3 v4 : Value) : World :=
  ((((w.setCell ⟨g, o, none⟩ v0).setCell ⟨g, o + 1, none⟩ v1).setCell ⟨g, o + 2, none⟩ v2).setCell ⟨g, o + 3, none⟩ v3).setCell ⟨g, o + 4, none⟩ v4
theorem set_heap (w : World) (g o : Nat) (u : Value) (cs : Array Value) (h : w.heap[g]? = some (.cells cs 77 (0, 0))) : (w.setCell ⟨g, o, none⟩ u).heap[g]? = some (.cells (cs.setIfInBounds o u) 77 (0, 0)) := by
  simp [World.setCell, Array.getElem?_modify, h]
theorem put5_heap (w : World) (g o : Nat) (v0 v1 v2 v3 v4 : Value) (cs : Array Value) (h : w.heap[g]? = some (.cells cs 77 (0, 0))) :
    (put5 w g o v0 v1 v2 v3 v4).heap[g]? = some (.cells (((((cs.setIfInBounds o v0).setIfInBounds (o + 1) v1).setIfInBounds (o + 2) v2).setIfInBounds (o + 3) v3).setIfInBounds (o + 4) v4) 77 (0, 0)) :=
  set_heap _ _ _ _ _ (set_heap _ _ _ _ _ (set_heap _ _ _ _ _ (set_heap _ _ _ _ _ (set_heap _ _ _ _ _ h))))
theorem put5_size (w : World) (g o : Nat) (v0 v1 v2 v3 v4 : Value) : (put5 w g o v0 v1 v2 v3 v4).heap.size = w.heap.size := by simp [put5, World.setCell]
theorem put5_far (w : World) (g o : Nat) (v0 v1 v2 v3 v4 : Value) (k : Nat) (hk : k ≠ g) : (put5 w g o v0 v1 v2 v3 v4).heap[k]? = w.heap[k]? := by
  unfold put5
  rw [Below.heap_setCell _ _ _ _ hk, Below.heap_setCell _ _ _ _ hk, Below.heap_setCell _ _ _ _ hk, Below.heap_setCell _ _ _ _ hk, Below.heap_setCell _ _ _ _ hk]
theorem put5_blk {w : World} {g n : Nat} (h : Blk w g n) (o : Nat) (v0 v1 v2 v3 v4 : Value) : Blk (put5 w g o v0 v1 v2 v3 v4) g n :=
  ((((h.set _ _ rfl).set _ _ rfl).set _ _ rfl).set _ _ rfl).set _ _ rfl
theorem put5_at {w : World} {g n : Nat} (h : Blk w g n) (o : Nat) (ho : o + 5 ≤ n * 5) (v0 v1 v2 v3 v4 : Value) :
    (put5 w g o v0 v1 v2 v3 v4).cell? ⟨g, o, none⟩ = some v0 ∧ (put5 w g o v0 v1 v2 v3 v4).cell? ⟨g, o + 1, none⟩ = some v1 ∧ (put5 w g o v0 v1 v2 v3 v4).cell? ⟨g, o + 2, none⟩ = some v2 ∧ (put5 w g o v0 v1 v2 v3 v4).cell? ⟨g, o + 3, none⟩ = some v3 ∧ (put5 w g o v0 v1 v2 v3 v4).cell? ⟨g, o + 4, none⟩ = some v4 := by
  obtain ⟨cs, h, hs⟩ := h
  have hh := put5_heap w g o v0 v1 v2 v3 v4 cs h
  refine ⟨?_, ?_, ?_, ?_, ?_⟩ <;> (rw [cell_of_row _ _ _ _ _ _ hh]; simp [Array.getElem?_setIfInBounds]; omega)
theorem put5_off {w : World} {g n : Nat} (h : Blk w g n) (o j : Nat) (hj : j < o ∨ o + 5 ≤ j) (v0 v1 v2 v3 v4 : Value) : (put5 w g o v0 v1 v2 v3 v4).cell? ⟨g, j, none⟩ = w.cell? ⟨g, j, none⟩ := by
  obtain ⟨cs, h, hs⟩ := h
  rw [cell_of_row _ _ _ _ _ _ (put5_heap w g o v0 v1 v2 v3 v4 cs h), cell_of_row _ _ _ _ _ _ h]
  have e0 : ¬ o = j := by omega
  have e1 : ¬ o + 1 = j := by omega
  have e2 : ¬ o + 2 = j := by omega
  have e3 : ¬ o + 3 = j := by omega
  have e4 : ¬ o + 4 = j := by omega
  simp [e0, e1, e2, e3, e4]

/-- What a maker hands on: a value in new memory. -/
def New (w : World) (d : Nat) (t : V) (e : Ending) (w' : World) : Prop :=
  ∃ A c A' c', e = .returned (vl t A c A' c') ∧ Rd w' w.heap.size w'.heap.size d t A c A' c' ∧ Mine w' A t.l.length ∧ Mine w' A' t.m.length ∧ Below w.heap.size w w'
def NewRow (w : World) (d : Nat) (l : List V) (e : Ending) (w' : World) : Prop :=
  ∃ A c, e = .returned (.slice A l.length c) ∧ Rw w' w.heap.size w'.heap.size d A c l ∧ Mine w' A l.length ∧ Below w.heap.size w w'

theorem info24 : (Tryz.prog.info? 77).map (fun i => (i.zero, i.size, i.bytes)) = some (some (.agg #[.int .i64 0, .int .i64 0, .string ⟨#[]⟩, .slice none 0 0, .slice none 0 0]), 5, 80) := by kernel_rfl
/-- A row of n values that are nothing. -/
def zrow (n : Nat) : Array Value := madeCells #[.int .i64 0, .int .i64 0, .string ⟨#[]⟩, .slice none 0 0, .slice none 0 0] (n * 5)
theorem make24 (n : Nat) (hn : n ≤ 1759218604441) (W : World) : (Instr.makeSlice 75 (.int .i64 (n : Int)) (.int .i64 (n : Int))).run Tryz.prog W = .ok (.slice (some ⟨W.heap.size, 0, none⟩) n n) (W.alloc (.cells (zrow n) 77)) := by
  obtain ⟨i0, hi, hz0, hz1, hz2⟩ := info_parts info24
  have := run_make (P := Tryz.prog) W 75 77 i0 _ Tryz.underlying75 hi hz0 .i64 .i64 (n : Int) (n : Int) (by omega) (Int.le_refl _) (by rw [hz2]; omega) (by omega)
  rw [this, hz1]; rfl
theorem blk_made (w : World) (n : Nat) : Blk (w.alloc (.cells (zrow n) 77)) w.heap.size n := ⟨zrow n, heap_alloc_new w _, size_madeCells _ _⟩

/-- So far as a row of copies is filled. -/
structure Fill (w : World) (g n d : Nat) (done : List V) : Prop where
  blk : Blk w g n
  el : ∀ j t, done[j]? = some t → ∃ A1 c1 A2 c2, cells5 w g (j * 5) t A1 c1 A2 c2 ∧ Rd w (g + 1) w.heap.size d t A1 c1 A2 c2

theorem Fill.next {w w' : World} {g n d : Nat} {done : List V} (h : Fill w g n d done) (hb : Below w.heap.size w w') : Fill w' g n d done :=
  ⟨h.blk.below hb h.blk.lt, fun j t hj => by
    obtain ⟨A1, c1, A2, c2, q, rd⟩ := h.el j t hj
    exact ⟨A1, c1, A2, c2, q.keep (lo := 0) (Kept.of_below hb (Nat.le_refl _)) (Nat.zero_le _) h.blk.lt, Rd.imp (Kept.of_below hb (Nat.le_refl _)) (Nat.le_refl _) hb.size (Nat.le_refl _) rd⟩⟩
theorem Fill.put {w : World} {g n d : Nat} {done : List V} (h : Fill w g n d done) (k : Nat) (hk : done.length = k) (hn : k < n) {t : V} {A : Option Addr} {c : Nat} {A' : Option Addr} {c' : Nat} (rd : Rd w (g + 1) w.heap.size d t A c A' c') :
    Fill (put5 w g (k * 5) (.int .i64 t.k) (.int .i64 t.n) (.string t.s) (.slice A t.l.length c) (.slice A' t.m.length c')) g n d (done ++ [t]) := by
  have hkept : Kept (g + 1) w.heap.size w (put5 w g (k * 5) (.int .i64 t.k) (.int .i64 t.n) (.string t.s) (.slice A t.l.length c) (.slice A' t.m.length c')) := fun i h1 _ => put5_far _ _ _ _ _ _ _ _ i (by omega)
  refine ⟨put5_blk h.blk _ _ _ _ _ _, fun j u hj => ?_⟩
  rw [put5_size]
  by_cases e : j = k
  · subst e
    rw [List.getElem?_append_right (by omega), hk, Nat.sub_self] at hj
    simp at hj
    subst hj
    obtain ⟨a0, a1, a2, a3, a4⟩ := put5_at h.blk (j * 5) (by omega) (.int .i64 t.k) (.int .i64 t.n) (.string t.s) (.slice A t.l.length c) (.slice A' t.m.length c')
    exact ⟨A, c, A', c', ⟨a0, a1, a2, a3, a4⟩, rd.keep hkept⟩
  · have hjd : j < done.length := by
      rcases Nat.lt_or_ge j (done ++ [t]).length with h1 | h1
      · simp at h1; omega
      · rw [List.getElem?_eq_none h1] at hj; cases hj
    rw [List.getElem?_append_left hjd] at hj
    obtain ⟨A1, c1, A2, c2, q, r1⟩ := h.el j u hj
    have ho := fun i (hi : i < 5) => put5_off h.blk (k * 5) (j * 5 + i) (by omega) (.int .i64 t.k) (.int .i64 t.n) (.string t.s) (.slice A t.l.length c) (.slice A' t.m.length c')
    exact ⟨A1, c1, A2, c2, ⟨(ho 0 (by omega)).trans q.c0, (ho 1 (by omega)).trans q.c1, (ho 2 (by omega)).trans q.c2, (ho 3 (by omega)).trans q.c3, (ho 4 (by omega)).trans q.c4⟩, r1.keep hkept⟩
theorem Fill.row {w : World} {g n d : Nat} {l : List V} (h : Fill w g n d l) (hl : l.length = n) (hn : n ≤ 1759218604441) (lo : Nat) (hlo : lo ≤ g) : Rw w lo w.heap.size d (some ⟨g, 0, none⟩) n l :=
  ⟨by omega, by unfold maxLen; omega, by omega, (fun e => by cases e), fun _ => ⟨g, 0, rfl, hlo, h.blk.lt, fun j t hj => by
    obtain ⟨A1, c1, A2, c2, q, rd⟩ := h.el j t hj
    exact ⟨A1, c1, A2, c2, by rw [Nat.zero_add]; exact q, rd.more (by omega) (Nat.le_refl _) (Nat.le_refl _)⟩⟩⟩
theorem take_map_next {α β : Type} (f : α → β) (l : List α) (k : Nat) {x : α} (hx : l[k]? = some x) : (l.take (k + 1)).map f = (l.take k).map f ++ [f x] := by
  obtain ⟨h1, e1⟩ := List.getElem?_eq_some_iff.1 hx
  rw [List.take_succ_eq_append_getElem h1, e1, List.map_append]; rfl

end Go.Proofs.YtllkimdlmnjoiaaGreatDoor

namespace Go.Proofs.YtllkimdlmnjoiaaGreatDoor
set_option maxRecDepth 100000
set_option maxRecDepth 100000
set_option maxRecDepth 100000
set_option maxRecDepth 100000
set_option maxRecDepth 100000
open Go.RowKit
attribute [local go_sem ↓] Go.wp_at_zero Go.wp_at_succ

/-- A box of one value that is the call's own. -/
structure Cell (w : World) (g : Nat) (v0 v1 v2 v3 v4 : Value) : Prop where
  c0 : w.cell? ⟨g, 0, none⟩ = some v0
  c1 : w.cell? ⟨g, 1, none⟩ = some v1
  c2 : w.cell? ⟨g, 2, none⟩ = some v2
  c3 : w.cell? ⟨g, 3, none⟩ = some v3
  c4 : w.cell? ⟨g, 4, none⟩ = some v4
  f0 : w.frozen? ⟨g, 0, none⟩ = false
  f1 : w.frozen? ⟨g, 1, none⟩ = false
  f2 : w.frozen? ⟨g, 2, none⟩ = false
  f3 : w.frozen? ⟨g, 3, none⟩ = false
  f4 : w.frozen? ⟨g, 4, none⟩ = false
  blk : Blk w g 1
theorem Cell.new (w : World) (v0 v1 v2 v3 v4 : Value) : Cell (w.alloc (.cells #[v0, v1, v2, v3, v4] 77)) w.heap.size v0 v1 v2 v3 v4 := by
  have hb : (w.alloc (.cells #[v0, v1, v2, v3, v4] 77)).heap[w.heap.size]? = some (.cells #[v0, v1, v2, v3, v4] 77 (0, 0)) := heap_alloc_new w _
  constructor
  all_goals first | exact ⟨_, hb, rfl⟩ | (rw [World.cell?_alloc_at _ _ _ _ rfl]; rfl) | (unfold World.frozen?; rw [hb]; simp)
theorem Cell.kept {w w' : World} {g : Nat} {v0 v1 v2 v3 v4 : Value} (h : Cell w g v0 v1 v2 v3 v4) (hk : w'.heap[g]? = w.heap[g]?) : Cell w' g v0 v1 v2 v3 v4 := by
  have hc := fun (o : Nat) => World.cell?_of_block (w := w) (w' := w') (a := ⟨g, o, none⟩) hk
  have hf := fun (o : Nat) => World.frozen?_of_block (w := w) (w' := w') (a := ⟨g, o, none⟩) hk
  exact ⟨(hc 0).trans h.c0, (hc 1).trans h.c1, (hc 2).trans h.c2, (hc 3).trans h.c3, (hc 4).trans h.c4, (hf 0).trans h.f0, (hf 1).trans h.f1, (hf 2).trans h.f2, (hf 3).trans h.f3, (hf 4).trans h.f4, h.blk.kept hk⟩
theorem Cell.below {w w' : World} {B g : Nat} {v0 v1 v2 v3 v4 : Value} (h : Cell w g v0 v1 v2 v3 v4) (hb : Below B w w') (hg : g < B) : Cell w' g v0 v1 v2 v3 v4 := h.kept (hb.block g hg)

/-- Five cells of a box written. -/
theorem fin5 {w : World} {g : Nat} (h : Blk w g 1) (v0 v1 v2 v3 v4 : Value) : Cell (((((w.setCell ⟨g, 0, none⟩ v0).setCell ⟨g, 1, none⟩ v1).setCell ⟨g, 2, none⟩ v2).setCell ⟨g, 3, none⟩ v3).setCell ⟨g, 4, none⟩ v4) g v0 v1 v2 v3 v4 := by
  obtain ⟨a0, a1, a2, a3, a4⟩ := put5_at h 0 (by omega) v0 v1 v2 v3 v4
  have hb := put5_blk h 0 v0 v1 v2 v3 v4
  exact ⟨a0, a1, a2, a3, a4, hb.frozen 0, hb.frozen 1, hb.frozen 2, hb.frozen 3, hb.frozen 4, hb⟩

/-- Two boxes, one behind the other. -/
theorem cells2 (w : World) (v0 v1 v2 v3 v4 u0 u1 u2 u3 u4 : Value) (W : World) (hW : (w.alloc (.cells #[v0, v1, v2, v3, v4] 77)).alloc (.cells #[u0, u1, u2, u3, u4] 77) = W) :
    Cell W w.heap.size v0 v1 v2 v3 v4 ∧ Cell W (w.heap.size + 1) u0 u1 u2 u3 u4 ∧ W.heap.size = w.heap.size + 1 + 1 ∧ Below w.heap.size w W := by
  subst hW
  refine ⟨(Cell.new w _ _ _ _ _).below (below_new _ _) (by simp), ?_, by simp, below_new2 _ _ _⟩
  have := Cell.new (w.alloc (.cells #[v0, v1, v2, v3, v4] 77)) u0 u1 u2 u3 u4
  rwa [size_alloc] at this

theorem Mine.move {w w' : World} {lo B d : Nat} {A : Option Addr} {c : Nat} {l : List V} (h : Mine w A l.length) (hr : Rw w lo B d A c l) (hk : Kept lo B w w') : Mine w' A l.length := fun h0 => by
  obtain ⟨g, e, hb⟩ := h h0
  obtain ⟨b, off, e', h1, h2, _⟩ := hr.at_ h0
  rw [e] at e'
  injection e' with e'
  injection e' with e1
  subst e1
  exact ⟨g, e, hb.kept (hk g h1 h2)⟩
theorem fld_copy {t : V} (r : Nat) (h : Fld t) : Fld (copyV r t) := by
  cases r <;> exact ⟨h.k0, h.k1, h.n0, h.n1, h.s1⟩

theorem New.mono {w w0 w' : World} {d : Nat} {t : V} {e : Ending} (h : New w d t e w') (hb : Below w0.heap.size w0 w) : New w0 d t e w' := by
  obtain ⟨A, c, A', c', h1, h2, h3, h4, h5⟩ := h
  exact ⟨A, c, A', c', h1, h2.more hb.size (Nat.le_refl _) (Nat.le_refl _), h3, h4, bnext hb h5⟩

end Go.Proofs.YtllkimdlmnjoiaaGreatDoor






