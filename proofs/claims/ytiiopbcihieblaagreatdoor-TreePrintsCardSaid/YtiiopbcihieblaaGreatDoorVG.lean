/- Carried over from an earlier seat. -/
import Derived.Test.YtiiopbcihieblaaGreatDoorVE
import Derived.Lib.QuietBelow
import Derived.BigQuiet
import Derived.Deep.OwnRows
import Derived.Laws.Rows
import Derived.OwnWalk
import Derived.Deep.RegionWith
import Derived.Deep.DrawnRows
import Derived.Deep.DeepCutAuto
namespace Go.Proofs.YtiiopbcihieblaaGreatDoor
set_option maxRecDepth 100000
set_option maxRecDepth 100000
set_option maxRecDepth 100000
set_option maxRecDepth 100000
open Go.RowKit Go.Sort

/-- Where the first is of which p holds, or -1. -/
def idxP (p : V → Bool) : List V → Nat → Int
  | [], _ => -1
  | x :: r, k => if p x then k else idxP p r (k + 1)
theorem idxP_yes (p : V → Bool) (l : List V) (k : Nat) {x : V} (hx : l[k]? = some x) (h : p x = true) : idxP p (l.drop k) k = k := by
  obtain ⟨h1, e1⟩ := List.getElem?_eq_some_iff.1 hx
  rw [List.drop_eq_getElem_cons h1, e1]; simp [idxP, h]
theorem idxP_no (p : V → Bool) (l : List V) (k : Nat) {x : V} (hx : l[k]? = some x) (h : p x = false) : idxP p (l.drop k) k = idxP p (l.drop (k + 1)) (k + 1) := by
  obtain ⟨h1, e1⟩ := List.getElem?_eq_some_iff.1 hx
  rw [List.drop_eq_getElem_cons h1, e1]; simp [idxP, h]
theorem idxP_out (p : V → Bool) (l : List V) (k j : Nat) (h : l.length ≤ k) : idxP p (l.drop k) j = -1 := by rw [List.drop_eq_nil_of_le h]; rfl
theorem idxP_range (p : V → Bool) : ∀ (l : List V) (k : Nat), idxP p l k = -1 ∧ l.any p = false ∨ ((k : Int) ≤ idxP p l k ∧ idxP p l k < (k : Int) + l.length ∧ l.any p = true)
  | [], _ => .inl ⟨rfl, rfl⟩
  | x :: r, k => by
    by_cases h : p x = true
    · right; simp [idxP, h]; omega
    · have h' : p x = false := by simpa using h
      rcases idxP_range p r (k + 1) with ⟨e, a⟩ | ⟨e1, e2, a⟩
      · left; simp [idxP, h', e, a]
      · right; simp only [idxP, h', List.any_cons, a, List.length_cons]; simp; omega

/-- A closure that asks p of a value, in every world in which all that lay in w lies unturned. -/
def Preds (F : Nat) (cap : Value) (w : World) (p : V → Bool) : Prop :=
  ∀ (W : World) (d : Nat) (a : V) (A : Option Addr) (c : Nat) (A' : Option Addr) (c' : Nat), Below w.heap.size w W → Rd W 0 W.heap.size d a A c A' c' →
    Calls Tryz.prog F #[vl a A c A' c', cap] W fun x w' => x = .returned (.bool (p a)) ∧ Below W.heap.size W w'

set_option maxHeartbeats 1600000 in
theorem indexFunc55 (p : V → Bool) (g : Nat) (w : World) (hcl : Preds 127 (.pointer (some ⟨g, 0, none⟩)) w p) (d : Nat) (A : Option Addr) (c : Nat) (l : List V) (h : Rw w 0 w.heap.size d A c l) :
    Calls Tryz.prog 139 #[.slice A l.length c, .func (.func 127) #[] #[.pointer (some ⟨g, 0, none⟩)]] w fun e w' => e = .returned (.int .i64 (idxP p l 0)) ∧ Below w.heap.size w w' := by
  have HC := Lib.hid hcl
  have H1 := Lib.hid h
  have b1 := h.big
  clear hcl h
  go_enter Tryz.func139, Tryz.ntmps139
  go_wp2
  go_loopw [8] (fun i wr => ∃ k : Nat, k ≤ l.length ∧ i = .int .i64 k ∧ Hid (Below w.heap.size w wr) ∧ Hid (idxP p (l.drop k) k = idxP p l 0)) (fun i _ => l.length - (intOf i).toNat)
  case atStart => exact ⟨0, by omega, rfl, Lib.hid (Below.refl _ _), Lib.hid (by simp)⟩
  case round =>
    obtain ⟨k, hk, rfl, hbel, hr⟩ := hrel
    by_cases hlt : k < l.length
    · obtain ⟨b, off, x, A1, c1, A2, c2, rfl, _, hb, hx, q, rx⟩ := (H1.out.next hbel.out).elem hlt
      obtain ⟨q0, q1, q2, q3, q4⟩ := q
      have RX := Lib.hid rx
      have Y := Lib.hid (idxP_yes p l k hx)
      have N := Lib.hid (idxP_no p l k hx)
      clear rx hx
      go_wp2_with fail
      refine (HC.out _ _ x _ _ _ _ hbel.out RX.out).mono ?_
      rintro e w1 ⟨rfl, hb1⟩
      have HB := Lib.hid (bnext hbel.out hb1)
      clear hb1
      cases hp : p x
      · go_wp2
        go_roundw
        case rel => exact ⟨k + 1, by omega, by go_num, HB, Lib.hid (by rw [← hr.out, N.out hp])⟩
        case measure => simp [intOf]; omega
      · go_wp2
        go_ret
        exact ⟨by rw [← hr.out, Y.out hp]; rfl, HB.out⟩
    · have OUT := Lib.hid (idxP_out p l k k (by omega))
      go_wp2
      go_ret
      exact ⟨by rw [← hr.out, OUT.out]; rfl, hbel.out⟩

set_option maxHeartbeats 800000 in
theorem containsFunc55 (p : V → Bool) (g : Nat) (w : World) (hcl : Preds 127 (.pointer (some ⟨g, 0, none⟩)) w p) (d : Nat) (A : Option Addr) (c : Nat) (l : List V) (h : Rw w 0 w.heap.size d A c l) :
    Calls Tryz.prog 128 #[.slice A l.length c, .func (.func 127) #[] #[.pointer (some ⟨g, 0, none⟩)]] w fun e w' => e = .returned (.bool (l.any p)) ∧ Below w.heap.size w w' := by
  have CT := Lib.hid (indexFunc55 p g w hcl d A c l h)
  have R := Lib.hid (idxP_range p l 0)
  clear hcl h
  go_enter Tryz.func128, Tryz.ntmps128
  go_wp2_with fail
  refine CT.out.mono ?_
  rintro e w1 ⟨rfl, hb1⟩
  have HB := Lib.hid hb1
  clear hb1
  go_wp2
  go_ret
  refine ⟨?_, HB.out⟩
  show Ending.returned (.bool (decide (0 ≤ idxP p l 0))) = _
  rcases R.out with ⟨e, a⟩ | ⟨e1, e2, a⟩
  · rw [a, e]; rfl
  · rw [a, decide_eq_true (by omega)]

theorem cmp_regrown {w : World} {da db : Nat} {a b : V} {A : Option Addr} {c : Nat} {A' : Option Addr} {c' : Nat} {D : Option Addr} {e : Nat} {D' : Option Addr} {e' : Nat}
    (ra : Rd w 0 w.heap.size da a A c A' c') (rb : Rd w 0 w.heap.size db b D e D' e') (d : Nat) (os : Array Obj) :
    Calls Tryz.prog 75 #[vl a A c A' c', vl b D e D' e'] (grow (redrawn w d) os) fun x w'' => x = .returned (.int .i64 (cmpV 12 a b)) ∧ ∃ p : Regrown, w'' = grow (redrawn w p.d) p.os :=
  Calls.regrown_of (cmp_any _ da db a b _ _ _ _ _ _ _ _ (ra.next (below_regrown w d os)) (rb.next (below_regrown w d os)))

/-- Each stands ahead of the next one. -/
def risesV : List V → Bool
  | x :: y :: r => decide (cmpV 12 x y < 0) && risesV (y :: r)
  | _ => true
theorem rises_next (l : List V) (k : Nat) {x y : V} (hx : l[k]? = some x) (hy : l[k + 1]? = some y) : risesV (l.drop k) = (decide (cmpV 12 x y < 0) && risesV (l.drop (k + 1))) := by
  obtain ⟨h1, e1⟩ := List.getElem?_eq_some_iff.1 hx
  obtain ⟨h2, e2⟩ := List.getElem?_eq_some_iff.1 hy
  rw [List.drop_eq_getElem_cons h1, e1, List.drop_eq_getElem_cons h2, e2]; rfl
theorem rises_out (l : List V) (k : Nat) (h : l.length ≤ k + 1) : risesV (l.drop k) = true := by
  have : (l.drop k).length ≤ 1 := by rw [List.length_drop]; omega
  match l.drop k, this with
  | [], _ => rfl
  | [_], _ => rfl

set_option maxHeartbeats 1600000 in
theorem rises_any (w : World) (d : Nat) (A : Option Addr) (c : Nat) (l : List V) (h : Rw w 0 w.heap.size d A c l) :
    Calls Tryz.prog 129 #[.slice A l.length c] w fun e w' => e = .returned (.bool (risesV l)) ∧ Below w.heap.size w w' := by
  have H1 := Lib.hid h
  have b1 := h.big
  clear h
  go_enter Tryz.func129, Tryz.ntmps129
  go_wp2
  go_loopw [3] (fun i wr => ∃ k : Nat, k ≤ l.length ∧ i = .int .i64 ((k : Int) + 1) ∧ Hid (Below w.heap.size w wr) ∧ Hid (risesV (l.drop k) = risesV l)) (fun i _ => l.length + 1 - (intOf i).toNat)
  case atStart => exact ⟨0, by omega, rfl, Lib.hid (Below.refl _ _), Lib.hid (by simp)⟩
  case round =>
    obtain ⟨k, hk, rfl, hbel, hr⟩ := hrel
    by_cases hlt : k + 1 < l.length
    · obtain ⟨b, off, x, A1, c1, A2, c2, hA, _, hb, hx, q, rx⟩ := (H1.out.next hbel.out).elem (k := k) (by omega)
      obtain ⟨b', off', y, D1, e1, D2, e2, hA', _, hb', hy, p, ry⟩ := (H1.out.next hbel.out).elem hlt
      rw [hA] at hA'
      injection hA' with hA'
      injection hA' with h1 h2
      subst h1; subst h2
      subst hA
      obtain ⟨q0, q1, q2, q3, q4⟩ := q
      obtain ⟨p0, p1, p2, p3, p4⟩ := p
      have cQ := Lib.hid (cmp_regrown rx ry)
      have NX := Lib.hid (rises_next l k hx hy)
      clear rx ry hx hy
      replace q0 := cell_regrown q0
      replace q1 := cell_regrown q1
      replace q2 := cell_regrown q2
      replace q3 := cell_regrown q3
      replace q4 := cell_regrown q4
      replace p0 := cell_regrown p0
      replace p1 := cell_regrown p1
      replace p2 := cell_regrown p2
      replace p3 := cell_regrown p3
      replace p4 := cell_regrown p4
      have i0 : (0 : Int) ≤ (k : Int) := by omega
      have i1 : (k : Int) + 1 < (l.length : Int) := by omega
      have i2 : (k : Int) < (l.length : Int) := by omega
      have i3 : IntKind.i64.wrap (k : Int) = (k : Int) := IntWalk.i64_in _ (by omega)
      have i4 : ((k : Int) + 1).toNat = k + 1 := by omega
      go_wp2_with fail
      refine wp_region_quiet_below (by kernel_rfl) (by kernel_rfl) ?_
      repeat (first | go_big_quiet_step (exact cQ.out _ _) | quiet_step (exact cQ.out _ _))
      refine wpQuiet_nil ?_
      intro _ hw'
      obtain ⟨⟨dq, osq⟩, hw''⟩ := hw'
      subst hw''
      have HB := Lib.hid (bnext hbel.out (below_regrown wr dq osq))
      clear q0 q1 q2 q3 q4 p0 p1 p2 p3 p4 i3 i4
      by_cases hlt0 : cmpV 12 x y < 0
      · have D := Lib.hid (decide_eq_true hlt0)
        go_wp2
        go_roundw
        case rel => exact ⟨k + 1, by omega, by go_num, HB, Lib.hid (by rw [← hr.out, NX.out, D.out]; rfl)⟩
        case measure => simp [intOf]; omega
      · have D := Lib.hid (decide_eq_false hlt0)
        go_wp2
        go_ret
        exact ⟨by rw [← hr.out, NX.out, D.out]; rfl, HB.out⟩
    · have OUT := Lib.hid (rises_out l k (by omega))
      go_wp2
      go_ret
      exact ⟨by rw [← hr.out, OUT.out]; rfl, hbel.out⟩
end Go.Proofs.YtiiopbcihieblaaGreatDoor

namespace Go.Proofs.YtiiopbcihieblaaGreatDoor
set_option maxRecDepth 100000
set_option maxRecDepth 100000
set_option maxRecDepth 100000
set_option maxRecDepth 100000
open Go.RowKit

/-- The copy of a value, r levels above the last one. -/
def copyV : Nat → V → V
  | 0, t => .mk t.k t.n t.s [] []
  | r + 1, t => .mk t.k t.n t.s (t.l.map (copyV r)) (t.m.map (copyV r))

/-- A block of values that is known whole. -/
def Blk (w : World) (g n : Nat) : Prop := ∃ cs : Array Value, w.heap[g]? = some (.cells cs 39 (0, 0)) ∧ cs.size = n * 5
theorem Blk.lt {w : World} {g n : Nat} (h : Blk w g n) : g < w.heap.size := by
  obtain ⟨cs, h, _⟩ := h
  exact (Array.getElem?_eq_some_iff.1 h).1
theorem Blk.cell {w : World} {g n : Nat} (h : Blk w g n) {i : Nat} (hi : i < n * 5) : ∃ v, w.cell? ⟨g, i, none⟩ = some v := by
  obtain ⟨cs, h, hs⟩ := h
  exact ⟨cs[i], by rw [cell_of_row w g i cs 39 (0, 0) h]; exact Array.getElem?_eq_getElem (by omega)⟩
theorem Blk.frozen {w : World} {g n : Nat} (h : Blk w g n) (i : Nat) : w.frozen? ⟨g, i, none⟩ = false := by
  obtain ⟨cs, h, _⟩ := h
  simp [World.frozen?, h]
theorem Blk.kept {w w' : World} {g n : Nat} (h : Blk w g n) (hk : w'.heap[g]? = w.heap[g]?) : Blk w' g n := by
  obtain ⟨cs, h, hs⟩ := h
  exact ⟨cs, hk.trans h, hs⟩
theorem Blk.below {w w' : World} {B g n : Nat} (h : Blk w g n) (hb : Below B w w') (hg : g < B) : Blk w' g n := h.kept (hb.block g hg)
theorem Blk.set {w : World} {g n : Nat} (h : Blk w g n) (p : Addr) (u : Value) (hp : p.spot = none) : Blk (w.setCell p u) g n := by
  by_cases e : g = p.block
  · obtain ⟨cs, h, hs⟩ := h
    refine ⟨cs.setIfInBounds p.off u, ?_, by simpa using hs⟩
    subst e
    obtain ⟨b, o, s⟩ := p
    obtain rfl : s = none := hp
    simp [World.setCell, Array.getElem?_modify, h]
  · exact h.kept (Below.heap_setCell w p u g e)

/-- A row whose memory is its owner's. -/
def Mine (w : World) (A : Option Addr) (n : Nat) : Prop := 0 < n → ∃ g, A = some ⟨g, 0, none⟩ ∧ Blk w g n
theorem Mine.kept {w w' : World} {lo B : Nat} {A : Option Addr} {n : Nat} (h : Mine w A n) (hA : ∀ g, A = some ⟨g, 0, none⟩ → lo ≤ g ∧ g < B) (hk : Kept lo B w w') : Mine w' A n := fun h0 => by
  obtain ⟨g, e, hb⟩ := h h0
  exact ⟨g, e, hb.kept (hk g (hA g e).1 (hA g e).2)⟩

/-- Five cells written, one behind the other. -/
abbrev put5 (w : World) (g o : Nat) (v0 v1 v2 v3 v4 : Value) : World :=
  ((((w.setCell ⟨g, o, none⟩ v0).setCell ⟨g, o + 1, none⟩ v1).setCell ⟨g, o + 2, none⟩ v2).setCell ⟨g, o + 3, none⟩ v3).setCell ⟨g, o + 4, none⟩ v4
theorem set_heap (w : World) (g o : Nat) (u : Value) (cs : Array Value) (h : w.heap[g]? = some (.cells cs 39 (0, 0))) : (w.setCell ⟨g, o, none⟩ u).heap[g]? = some (.cells (cs.setIfInBounds o u) 39 (0, 0)) := by
  simp [World.setCell, Array.getElem?_modify, h]
theorem put5_heap (w : World) (g o : Nat) (v0 v1 v2 v3 v4 : Value) (cs : Array Value) (h : w.heap[g]? = some (.cells cs 39 (0, 0))) :
    (put5 w g o v0 v1 v2 v3 v4).heap[g]? = some (.cells (((((cs.setIfInBounds o v0).setIfInBounds (o + 1) v1).setIfInBounds (o + 2) v2).setIfInBounds (o + 3) v3).setIfInBounds (o + 4) v4) 39 (0, 0)) :=
  set_heap _ _ _ _ _ (set_heap _ _ _ _ _ (set_heap _ _ _ _ _ (set_heap _ _ _ _ _ (set_heap _ _ _ _ _ h))))
theorem put5_size (w : World) (g o : Nat) (v0 v1 v2 v3 v4 : Value) : (put5 w g o v0 v1 v2 v3 v4).heap.size = w.heap.size := by simp [put5, World.setCell]
theorem put5_far (w : World) (g o : Nat) (v0 v1 v2 v3 v4 : Value) (k : Nat) (hk : k ≠ g) : (put5 w g o v0 v1 v2 v3 v4).heap[k]? = w.heap[k]? := by
  unfold put5
  rw [Below.heap_setCell _ _ _ _ hk, Below.heap_setCell _ _ _ _ hk, Below.heap_setCell _ _ _ _ hk, Below.heap_setCell _ _ _ _ hk, Below.heap_setCell _ _ _ _ hk]
theorem put5_blk {w : World} {g n : Nat} (h : Blk w g n) (o : Nat) (v0 v1 v2 v3 v4 : Value) : Blk (put5 w g o v0 v1 v2 v3 v4) g n :=
  ((((h.set _ _ rfl).set _ _ rfl).set _ _ rfl).set _ _ rfl).set _ _ rfl
theorem put5_at {w : World} {g n : Nat} (h : Blk w g n) (o : Nat) (ho : o + 5 ≤ n * 5) (v0 v1 v2 v3 v4 : Value) :
    (put5 w g o v0 v1 v2 v3 v4).cell? ⟨g, o, none⟩ = some v0 ∧ (put5 w g o v0 v1 v2 v3 v4).cell? ⟨g, o + 1, none⟩ = some v1 ∧ (put5 w g o v0 v1 v2 v3 v4).cell? ⟨g, o + 2, none⟩ = some v2 ∧ (put5 w g o v0 v1 v2 v3 v4).cell? ⟨g, o + 3, none⟩ = some v3 ∧ (put5 w g o v0 v1 v2 v3 v4).cell? ⟨g, o + 4, none⟩ = some v4 := by
  obtain ⟨cs, h, hs⟩ := h
  have hh := put5_heap w g o v0 v1 v2 v3 v4 cs h
  refine ⟨?_, ?_, ?_, ?_, ?_⟩ <;> (rw [cell_of_row _ _ _ _ _ _ hh]; simp [Array.getElem?_setIfInBounds]; omega)
theorem put5_off {w : World} {g n : Nat} (h : Blk w g n) (o j : Nat) (hj : j < o ∨ o + 5 ≤ j) (v0 v1 v2 v3 v4 : Value) : (put5 w g o v0 v1 v2 v3 v4).cell? ⟨g, j, none⟩ = w.cell? ⟨g, j, none⟩ := by
  obtain ⟨cs, h, hs⟩ := h
  rw [cell_of_row _ _ _ _ _ _ (put5_heap w g o v0 v1 v2 v3 v4 cs h), cell_of_row _ _ _ _ _ _ h]
  have e0 : ¬ o = j := by omega
  have e1 : ¬ o + 1 = j := by omega
  have e2 : ¬ o + 2 = j := by omega
  have e3 : ¬ o + 3 = j := by omega
  have e4 : ¬ o + 4 = j := by omega
  simp [e0, e1, e2, e3, e4]

/-- What a maker hands on: a value in new memory. -/
def New (w : World) (d : Nat) (t : V) (e : Ending) (w' : World) : Prop :=
  ∃ A c A' c', e = .returned (vl t A c A' c') ∧ Rd w' w.heap.size w'.heap.size d t A c A' c' ∧ Mine w' A t.l.length ∧ Mine w' A' t.m.length ∧ Below w.heap.size w w'
def NewRow (w : World) (d : Nat) (l : List V) (e : Ending) (w' : World) : Prop :=
  ∃ A c, e = .returned (.slice A l.length c) ∧ Rw w' w.heap.size w'.heap.size d A c l ∧ Mine w' A l.length ∧ Below w.heap.size w w'

theorem info24 : (Tryz.prog.info? 39).map (fun i => (i.zero, i.size, i.bytes)) = some (some (.agg #[.int .i64 0, .int .i64 0, .string ⟨#[]⟩, .slice none 0 0, .slice none 0 0]), 5, 80) := by kernel_rfl
/-- A row of n values that are nothing. -/
def zrow (n : Nat) : Array Value := madeCells #[.int .i64 0, .int .i64 0, .string ⟨#[]⟩, .slice none 0 0, .slice none 0 0] (n * 5)
theorem make24 (n : Nat) (hn : n ≤ 1759218604441) (W : World) : (Instr.makeSlice 37 (.int .i64 (n : Int)) (.int .i64 (n : Int))).run Tryz.prog W = .ok (.slice (some ⟨W.heap.size, 0, none⟩) n n) (W.alloc (.cells (zrow n) 39)) := by
  obtain ⟨i0, hi, hz0, hz1, hz2⟩ := info_parts info24
  have := run_make (P := Tryz.prog) W 37 39 i0 _ Tryz.underlying37 hi hz0 .i64 .i64 (n : Int) (n : Int) (by omega) (Int.le_refl _) (by rw [hz2]; omega) (by omega)
  rw [this, hz1]; rfl
theorem blk_made (w : World) (n : Nat) : Blk (w.alloc (.cells (zrow n) 39)) w.heap.size n := ⟨zrow n, heap_alloc_new w _, size_madeCells _ _⟩

/-- So far as a row of copies is filled. -/
structure Fill (w : World) (g n d : Nat) (done : List V) : Prop where
  blk : Blk w g n
  el : ∀ j t, done[j]? = some t → ∃ A1 c1 A2 c2, cells5 w g (j * 5) t A1 c1 A2 c2 ∧ Rd w (g + 1) w.heap.size d t A1 c1 A2 c2

theorem Fill.next {w w' : World} {g n d : Nat} {done : List V} (h : Fill w g n d done) (hb : Below w.heap.size w w') : Fill w' g n d done :=
  ⟨h.blk.below hb h.blk.lt, fun j t hj => by
    obtain ⟨A1, c1, A2, c2, q, rd⟩ := h.el j t hj
    exact ⟨A1, c1, A2, c2, q.keep (lo := 0) (Kept.of_below hb (Nat.le_refl _)) (Nat.zero_le _) h.blk.lt, Rd.imp (Kept.of_below hb (Nat.le_refl _)) (Nat.le_refl _) hb.size (Nat.le_refl _) rd⟩⟩
theorem Fill.put {w : World} {g n d : Nat} {done : List V} (h : Fill w g n d done) (k : Nat) (hk : done.length = k) (hn : k < n) {t : V} {A : Option Addr} {c : Nat} {A' : Option Addr} {c' : Nat} (rd : Rd w (g + 1) w.heap.size d t A c A' c') :
    Fill (put5 w g (k * 5) (.int .i64 t.k) (.int .i64 t.n) (.string t.s) (.slice A t.l.length c) (.slice A' t.m.length c')) g n d (done ++ [t]) := by
  have hkept : Kept (g + 1) w.heap.size w (put5 w g (k * 5) (.int .i64 t.k) (.int .i64 t.n) (.string t.s) (.slice A t.l.length c) (.slice A' t.m.length c')) := fun i h1 _ => put5_far _ _ _ _ _ _ _ _ i (by omega)
  refine ⟨put5_blk h.blk _ _ _ _ _ _, fun j u hj => ?_⟩
  rw [put5_size]
  by_cases e : j = k
  · subst e
    rw [List.getElem?_append_right (by omega), hk, Nat.sub_self] at hj
    simp at hj
    subst hj
    obtain ⟨a0, a1, a2, a3, a4⟩ := put5_at h.blk (j * 5) (by omega) (.int .i64 t.k) (.int .i64 t.n) (.string t.s) (.slice A t.l.length c) (.slice A' t.m.length c')
    exact ⟨A, c, A', c', ⟨a0, a1, a2, a3, a4⟩, rd.keep hkept⟩
  · have hjd : j < done.length := by
      rcases Nat.lt_or_ge j (done ++ [t]).length with h1 | h1
      · simp at h1; omega
      · rw [List.getElem?_eq_none h1] at hj; cases hj
    rw [List.getElem?_append_left hjd] at hj
    obtain ⟨A1, c1, A2, c2, q, r1⟩ := h.el j u hj
    have ho := fun i (hi : i < 5) => put5_off h.blk (k * 5) (j * 5 + i) (by omega) (.int .i64 t.k) (.int .i64 t.n) (.string t.s) (.slice A t.l.length c) (.slice A' t.m.length c')
    exact ⟨A1, c1, A2, c2, ⟨(ho 0 (by omega)).trans q.c0, (ho 1 (by omega)).trans q.c1, (ho 2 (by omega)).trans q.c2, (ho 3 (by omega)).trans q.c3, (ho 4 (by omega)).trans q.c4⟩, r1.keep hkept⟩
theorem Fill.row {w : World} {g n d : Nat} {l : List V} (h : Fill w g n d l) (hl : l.length = n) (hn : n ≤ 1759218604441) (lo : Nat) (hlo : lo ≤ g) : Rw w lo w.heap.size d (some ⟨g, 0, none⟩) n l :=
  ⟨by omega, by unfold maxLen; omega, by omega, (fun e => by cases e), fun _ => ⟨g, 0, rfl, hlo, h.blk.lt, fun j t hj => by
    obtain ⟨A1, c1, A2, c2, q, rd⟩ := h.el j t hj
    exact ⟨A1, c1, A2, c2, by rw [Nat.zero_add]; exact q, rd.more (by omega) (Nat.le_refl _) (Nat.le_refl _)⟩⟩⟩
theorem take_map_next {α β : Type} (f : α → β) (l : List α) (k : Nat) {x : α} (hx : l[k]? = some x) : (l.take (k + 1)).map f = (l.take k).map f ++ [f x] := by
  obtain ⟨h1, e1⟩ := List.getElem?_eq_some_iff.1 hx
  rw [List.take_succ_eq_append_getElem h1, e1, List.map_append]; rfl

/-- value.copyAt, r levels above the last one. -/
def CopyAt (r : Nat) : Prop :=
  ∀ (w : World) (da : Nat) (a : V) (A : Option Addr) (c : Nat) (A' : Option Addr) (c' : Nat) (lev : Int), lev = 13 - r → r ≤ 12 → Rd w 0 w.heap.size da a A c A' c' →
    Calls Tryz.prog 78 #[vl a A c A' c', .int .i64 lev] w (New w (r + 1) (copyV r a))

set_option maxHeartbeats 1600000 in
theorem copyRow_any (r : Nat) (ih : CopyAt r) (hr : r ≤ 12) (w : World) (d : Nat) (A : Option Addr) (c : Nat) (l : List V) (lev : Int) (hlev : lev = 13 - r) (h : Rw w 0 w.heap.size d A c l) :
    Calls Tryz.prog 102 #[.slice A l.length c, .int .i64 lev] w (NewRow w (r + 1) (l.map (copyV r))) := by
  have IH := Lib.hid ih
  have HL := Lib.hid hlev
  have H := Lib.hid h
  have hbig := h.big
  have hmk := make24 l.length hbig
  clear ih hlev h
  by_cases h0 : l.length = 0
  · have e0 : ((l.length : Int) == 0) = true := by rw [h0]; rfl
    obtain rfl : l = [] := List.eq_nil_of_length_eq_zero h0
    clear hmk
    go_enter Tryz.func102, Tryz.ntmps102
    go_wp2
    go_ret
    exact ⟨none, 0, rfl, rw_nil _ _ _ _, fun h => absurd h (by simp), Below.refl _ _⟩
  · have e0 : ((l.length : Int) == 0) = false := beq_eq_false_iff_ne.2 (by omega)
    go_enter Tryz.func102, Tryz.ntmps102
    go_wp2
    have hb0 := blk_made w l.length
    generalize hX : World.alloc w _ = X at hb0
    have hBX : Below w.heap.size w X := by rw [← hX]; exact below_new _ _
    have hS : X.heap.size = w.heap.size + 1 := by rw [← hX]; simp
    have F0 := Lib.hid (show Fill X w.heap.size l.length (r + 1) [] from ⟨hb0, fun j t h => by simp at h⟩)
    have BX := Lib.hid hBX
    have SX := Lib.hid hS
    clear hb0 hBX hS hX
    go_loopw [16] (fun i wr => ∃ k : Nat, k ≤ l.length ∧ i = .int .i64 k ∧ Hid (Below w.heap.size w wr) ∧ Hid (w.heap.size + 1 ≤ wr.heap.size) ∧ Hid (Fill wr w.heap.size l.length (r + 1) ((l.take k).map (copyV r)))) (fun i _ => l.length - (intOf i).toNat)
    case atStart => exact ⟨0, by omega, rfl, BX, Lib.hid (by rw [SX.out]; omega), by simpa using F0⟩
    case round =>
      obtain ⟨k, hk, rfl, hbel, hsz, hF⟩ := hrel
      by_cases hlt : k < l.length
      · obtain ⟨b, off, x, A1, c1, A2, c2, rfl, _, hb, hx, q, rx⟩ := (H.out.next hbel.out).elem hlt
        obtain ⟨q0, q1, q2, q3, q4⟩ := q
        have RX := Lib.hid rx
        have HX := Lib.hid hx
        clear rx hx
        go_wp2_with fail
        refine (IH.out _ _ x _ _ _ _ lev HL.out hr (RX.out.next (below_new _ _))).mono ?_
        rintro e w1 ⟨D, e1, D', e2, rfl, rd, _, _, hb1⟩
        have hB1 : Below wr.heap.size wr w1 := bnext (below_new _ _) hb1
        have hbk := (hF.out.blk).below hB1 hF.out.blk.lt
        obtain ⟨v0, f0⟩ := hbk.cell (i := k * 5) (by omega)
        obtain ⟨v1, f1⟩ := hbk.cell (i := k * 5 + 1) (by omega)
        obtain ⟨v2, f2⟩ := hbk.cell (i := k * 5 + 2) (by omega)
        obtain ⟨v3, f3⟩ := hbk.cell (i := k * 5 + 3) (by omega)
        obtain ⟨v4, f4⟩ := hbk.cell (i := k * 5 + 4) (by omega)
        have z0 := hbk.frozen (k * 5)
        have z1 := hbk.frozen (k * 5 + 1)
        have z2 := hbk.frozen (k * 5 + 2)
        have z3 := hbk.frozen (k * 5 + 3)
        have z4 := hbk.frozen (k * 5 + 4)
        have RD := Lib.hid rd
        have HB := Lib.hid hb1
        have HB1 := Lib.hid hB1
        clear rd hb1 hB1 hbk
        go_wp2
        have hgw : w.heap.size < wr.heap.size := by have := hsz.out; omega
        have FP := Lib.hid ((hF.out.next HB1.out).put k (by simp; omega) hlt (RD.out.more (lo' := w.heap.size + 1) (by have := hsz.out; simp; omega) (Nat.le_refl _) (Nat.le_refl _)))
        rw [← take_map_next (copyV r) l k HX.out] at FP
        have BW := Lib.hid (show Below w.heap.size w w1 from hbel.out.trans (HB1.out.mono (by omega)))
        go_roundw
        case rel => exact ⟨k + 1, by omega, by go_num, Lib.hid (((((BW.out.setCell (Nat.le_refl _) _).setCell (Nat.le_refl _) _).setCell (Nat.le_refl _) _).setCell (Nat.le_refl _) _).setCell (Nat.le_refl _) _), Lib.hid (by have := BW.out.size; have := HB1.out.size; rw [put5_size]; omega), FP⟩
        case measure => simp [intOf]; omega
      · obtain rfl : k = l.length := by omega
        rw [List.take_length] at hF
        have L1 := Lib.hid (show (l.map (copyV r)).length = l.length by simp)
        go_wp2
        go_ret
        exact ⟨some ⟨w.heap.size, 0, none⟩, l.length, by rw [L1.out]; rfl, hF.out.row L1.out hbig _ (Nat.le_refl _), fun _ => ⟨_, rfl, by rw [L1.out]; exact hF.out.blk⟩, hbel.out⟩
end Go.Proofs.YtiiopbcihieblaaGreatDoor

namespace Go.Proofs.YtiiopbcihieblaaGreatDoor
set_option maxRecDepth 100000
set_option maxRecDepth 100000
set_option maxRecDepth 100000
set_option maxRecDepth 100000
open Go.RowKit
attribute [local go_sem ↓] Go.wp_at_zero Go.wp_at_succ

/-- A box of one value that is the call's own. -/
structure Cell (w : World) (g : Nat) (v0 v1 v2 v3 v4 : Value) : Prop where
  c0 : w.cell? ⟨g, 0, none⟩ = some v0
  c1 : w.cell? ⟨g, 1, none⟩ = some v1
  c2 : w.cell? ⟨g, 2, none⟩ = some v2
  c3 : w.cell? ⟨g, 3, none⟩ = some v3
  c4 : w.cell? ⟨g, 4, none⟩ = some v4
  f0 : w.frozen? ⟨g, 0, none⟩ = false
  f1 : w.frozen? ⟨g, 1, none⟩ = false
  f2 : w.frozen? ⟨g, 2, none⟩ = false
  f3 : w.frozen? ⟨g, 3, none⟩ = false
  f4 : w.frozen? ⟨g, 4, none⟩ = false
  blk : Blk w g 1
theorem Cell.new (w : World) (v0 v1 v2 v3 v4 : Value) : Cell (w.alloc (.cells #[v0, v1, v2, v3, v4] 39)) w.heap.size v0 v1 v2 v3 v4 := by
  have hb : (w.alloc (.cells #[v0, v1, v2, v3, v4] 39)).heap[w.heap.size]? = some (.cells #[v0, v1, v2, v3, v4] 39 (0, 0)) := heap_alloc_new w _
  constructor
  all_goals first | exact ⟨_, hb, rfl⟩ | (rw [World.cell?_alloc_at _ _ _ _ rfl]; rfl) | (unfold World.frozen?; rw [hb]; simp)
theorem Cell.kept {w w' : World} {g : Nat} {v0 v1 v2 v3 v4 : Value} (h : Cell w g v0 v1 v2 v3 v4) (hk : w'.heap[g]? = w.heap[g]?) : Cell w' g v0 v1 v2 v3 v4 := by
  have hc := fun (o : Nat) => World.cell?_of_block (w := w) (w' := w') (a := ⟨g, o, none⟩) hk
  have hf := fun (o : Nat) => World.frozen?_of_block (w := w) (w' := w') (a := ⟨g, o, none⟩) hk
  exact ⟨(hc 0).trans h.c0, (hc 1).trans h.c1, (hc 2).trans h.c2, (hc 3).trans h.c3, (hc 4).trans h.c4, (hf 0).trans h.f0, (hf 1).trans h.f1, (hf 2).trans h.f2, (hf 3).trans h.f3, (hf 4).trans h.f4, h.blk.kept hk⟩
theorem Cell.below {w w' : World} {B g : Nat} {v0 v1 v2 v3 v4 : Value} (h : Cell w g v0 v1 v2 v3 v4) (hb : Below B w w') (hg : g < B) : Cell w' g v0 v1 v2 v3 v4 := h.kept (hb.block g hg)

/-- Five cells of a box written. -/
theorem fin5 {w : World} {g : Nat} (h : Blk w g 1) (v0 v1 v2 v3 v4 : Value) : Cell (((((w.setCell ⟨g, 0, none⟩ v0).setCell ⟨g, 1, none⟩ v1).setCell ⟨g, 2, none⟩ v2).setCell ⟨g, 3, none⟩ v3).setCell ⟨g, 4, none⟩ v4) g v0 v1 v2 v3 v4 := by
  obtain ⟨a0, a1, a2, a3, a4⟩ := put5_at h 0 (by omega) v0 v1 v2 v3 v4
  have hb := put5_blk h 0 v0 v1 v2 v3 v4
  exact ⟨a0, a1, a2, a3, a4, hb.frozen 0, hb.frozen 1, hb.frozen 2, hb.frozen 3, hb.frozen 4, hb⟩

/-- Two boxes, one behind the other. -/
theorem cells2 (w : World) (v0 v1 v2 v3 v4 u0 u1 u2 u3 u4 : Value) (W : World) (hW : (w.alloc (.cells #[v0, v1, v2, v3, v4] 39)).alloc (.cells #[u0, u1, u2, u3, u4] 39) = W) :
    Cell W w.heap.size v0 v1 v2 v3 v4 ∧ Cell W (w.heap.size + 1) u0 u1 u2 u3 u4 ∧ W.heap.size = w.heap.size + 1 + 1 ∧ Below w.heap.size w W := by
  subst hW
  refine ⟨(Cell.new w _ _ _ _ _).below (below_new _ _) (by simp), ?_, by simp, below_new2 _ _ _⟩
  have := Cell.new (w.alloc (.cells #[v0, v1, v2, v3, v4] 39)) u0 u1 u2 u3 u4
  rwa [size_alloc] at this

theorem Mine.move {w w' : World} {lo B d : Nat} {A : Option Addr} {c : Nat} {l : List V} (h : Mine w A l.length) (hr : Rw w lo B d A c l) (hk : Kept lo B w w') : Mine w' A l.length := fun h0 => by
  obtain ⟨g, e, hb⟩ := h h0
  obtain ⟨b, off, e', h1, h2, _⟩ := hr.at_ h0
  rw [e] at e'
  injection e' with e'
  injection e' with e1
  subst e1
  exact ⟨g, e, hb.kept (hk g h1 h2)⟩
theorem fld_copy {t : V} (r : Nat) (h : Fld t) : Fld (copyV r t) := by
  cases r <;> exact ⟨h.k0, h.k1, h.n0, h.n1, h.s1⟩

set_option maxHeartbeats 1600000 in
theorem copyAt_zero : CopyAt 0 := by
  intro w da a A c A' c' lev hlev _ ra
  have hl : 12 < lev := by omega
  obtain ⟨da', rfl⟩ := ra.pos
  have RF := Lib.hid ra.1
  clear hlev ra
  unfold vl
  go_enter Tryz.func78, Tryz.ntmps78
  go_wp2
  exact bodyPost_ret (v := vl (copyV 0 a) none 0 none 0) (by simp [results, Tryz.results78, go_sem]; exact ⟨rfl, rfl, rfl, rfl, rfl⟩) rfl ⟨none, 0, none, 0, rfl, ⟨fld_copy 0 RF.out, rw_nil _ _ _ _, rw_nil _ _ _ _⟩, fun h => absurd h (by simp [copyV, V.l]), fun h => absurd h (by simp [copyV, V.m]), below_new2 _ _ _⟩

set_option maxHeartbeats 3200000 in
theorem copyAt_succ (r : Nat) (ih : CopyAt r) : CopyAt (r + 1) := by
  intro w da a A c A' c' lev hlev hr ra
  have hl : lev ≤ 12 := by omega
  have hl0 : 1 ≤ lev := by omega
  have HL := Lib.hid (show lev + 1 = 13 - r by omega)
  obtain ⟨da', rfl⟩ := ra.pos
  have RF := Lib.hid ra.1
  have RL := Lib.hid ra.2.1
  have RM := Lib.hid ra.2.2
  have IH := Lib.hid ih
  clear hlev ra ih
  unfold vl
  go_enter Tryz.func78, Tryz.ntmps78
  go_wp2_with fail
  generalize hW : World.alloc (World.alloc _ _) _ = W
  obtain ⟨k1, k2, hz, hb⟩ := cells2 _ _ _ _ _ _ _ _ _ _ _ _ hW
  have K1 := Lib.hid k1
  have K2 := Lib.hid k2
  have HZ := Lib.hid hz
  have HB := Lib.hid hb
  have CL := Lib.hid (fun (X : World) (hX : Below W.heap.size W X) => copyRow_any r IH.out (by omega) X da' A c a.l (lev + 1) HL.out ((RL.out.next HB.out).next hX))
  have CM := Lib.hid (fun (X : World) (hX : Below W.heap.size W X) => copyRow_any r IH.out (by omega) X da' A' c' a.m (lev + 1) HL.out ((RM.out.next HB.out).next hX))
  obtain ⟨a0, a1, a2, a3, a4, f0, f1, f2, f3, f4, _⟩ := k1
  have hzz : w.heap.size + 1 < W.heap.size := by rw [hz]; omega
  clear hz hb hW k2
  have i3 : IntKind.i64.wrap (lev + 1) = lev + 1 := IntWalk.i64_in _ (by omega)
  go_region_with (go_at_call 102; first
    | ((with_reducible refine (CL.out _ ?_).mono ?_); (focus exact (Below.refl _ _).drew); rintro e w1 ⟨D, e1, rfl, rD, mD, hb1⟩; have hb1' : Below W.heap.size W w1 := (Below.refl _ _).drew.trans hb1; obtain ⟨x0, x1, x2, x3, x4, y0, y1, y2, y3, y4, _⟩ := K1.out.below hb1' (by omega); have RD := Lib.hid rD; have MD := Lib.hid mD; have B1 := Lib.hid hb1'; clear rD mD hb1 hb1')
    | ((with_reducible refine (CM.out _ ?_).mono ?_); (focus exact B1.out); rintro e w2 ⟨E, e2, rfl, rE, mE, hb2⟩; have B2 := Lib.hid (bnext B1.out hb2); obtain ⟨x0', x1', x2', x3', x4', y0', y1', y2', y3', y4', _⟩ := K1.out.below B2.out (by omega); have RE := Lib.hid rE; have ME := Lib.hid mE; have B12 := Lib.hid hb2; clear rE mE hb2))
  all_goals
    obtain ⟨s0, s1, s2, s3, s4, p0, p1, p2, p3, p4, hblk⟩ := K2.out.below B2.out hzz
    have HBK := Lib.hid hblk
    clear hblk a0 a1 a2 a3 a4 f0 f1 f2 f3 f4 x0 x1 x2 x3 x4 y0 y1 y2 y3 y4
    go_wp2
    have hsz : W.heap.size ≤ w1.heap.size := B1.out.size
    have hsz2 : w1.heap.size ≤ w2.heap.size := B12.out.size
    have hs0 : w.heap.size ≤ W.heap.size := by omega
    have BF : Below w.heap.size w w2 := HB.out.trans (B2.out.mono hs0)
    generalize hF : World.setCell (World.setCell (World.setCell (World.setCell (World.setCell (World.setCell (World.setCell w2 _ _) _ _) _ _) _ _) _ _) _ _) _ _ = F
    have hc := fin5 ((HBK.out.set ⟨w.heap.size, 3, none⟩ (.slice D a.l.length e1) rfl).set ⟨w.heap.size, 4, none⟩ (.slice E a.m.length e2) rfl) (.int .i64 a.k) (.int .i64 a.n) (.string a.s) (.slice D a.l.length e1) (.slice E a.m.length e2)
    rw [hF] at hc
    have hk : Kept W.heap.size w2.heap.size w2 F := by
      rw [← hF]
      repeat (refine Kept.trans ?_ (Kept.setCell (.inl (by simp; omega)) _))
      exact Kept.refl _ _ _
    have hbf : Below w.heap.size w F := by
      rw [← hF]
      repeat (refine Below.setCell ?_ (by simp) _)
      exact BF
    have hsf : F.heap.size = w2.heap.size := by rw [← hF]; simp [World.setCell]
    clear hF
    obtain ⟨r0, r1, r2, r3, r4, _⟩ := hc
    have hk1 : Kept W.heap.size w1.heap.size w1 F := (Kept.of_below B12.out (Nat.le_refl _)).trans (fun i h1 h2 => hk i h1 (by omega))
    have hk2 : Kept w1.heap.size w2.heap.size w2 F := fun i h1 h2 => hk i (by omega) h2
    have RD' : Rw w1 W.heap.size w1.heap.size (r + 1) D e1 (a.l.map (copyV r)) := RD.out
    have RE' : Rw w2 w1.heap.size w2.heap.size (r + 1) E e2 (a.m.map (copyV r)) := RE.out
    refine bodyPost_ret (v := vl (copyV (r + 1) a) D e1 E e2) (by simp [results, Tryz.results78, go_sem, r0, r1, r2, r3, r4]; exact ⟨rfl, rfl, rfl, by simp [copyV, V.l], by simp [copyV, V.m]⟩) rfl ⟨D, e1, E, e2, rfl, ⟨fld_copy (r + 1) RF.out, ?_, ?_⟩, ?_, ?_, hbf⟩
    · exact RD'.imp hk1 hs0 (by omega) (fun _ _ _ _ _ h => Rd.imp hk1 hs0 (by omega) (Nat.le_refl _) h)
    · exact RE'.imp hk2 (by omega) (by omega) (fun _ _ _ _ _ h => Rd.imp hk2 (by omega) (by omega) (Nat.le_refl _) h)
    · exact (show Mine F D (a.l.map (copyV r)).length from Mine.move MD.out RD' hk1)
    · exact (show Mine F E (a.m.map (copyV r)).length from Mine.move ME.out RE' hk2)

theorem copyAt_any : ∀ r, CopyAt r
  | 0 => copyAt_zero
  | r + 1 => copyAt_succ r (copyAt_any r)

theorem New.mono {w w0 w' : World} {d : Nat} {t : V} {e : Ending} (h : New w d t e w') (hb : Below w0.heap.size w0 w) : New w0 d t e w' := by
  obtain ⟨A, c, A', c', h1, h2, h3, h4, h5⟩ := h
  exact ⟨A, c, A', c', h1, h2.more hb.size (Nat.le_refl _) (Nat.le_refl _), h3, h4, bnext hb h5⟩

end Go.Proofs.YtiiopbcihieblaaGreatDoor




