/- Carried over from the seat of layer 2. -/
import Derived.Test.YtciipggccjiaiaaVG
import Derived.Deep.OwnRows
import Derived.Laws.Rows
import Derived.OwnWalk
namespace Go.Proofs.Ytciipggccjiaiaa
set_option maxRecDepth 100000
open Go.RowKit

/-- The copy of a value, r levels above the last one. -/
def copyV : Nat → V → V
  | 0, t => .mk t.k t.n t.s [] []
  | r + 1, t => .mk t.k t.n t.s (t.l.map (copyV r)) (t.m.map (copyV r))

/-- A block of values that is known whole. -/
def Blk (w : World) (g n : Nat) : Prop := ∃ cs : Array Value, w.heap[g]? = some (.cells cs 37 (0, 0)) ∧ cs.size = n * 5
theorem Blk.lt {w : World} {g n : Nat} (h : Blk w g n) : g < w.heap.size := by
  obtain ⟨cs, h, _⟩ := h
  exact (Array.getElem?_eq_some_iff.1 h).1
theorem Blk.cell {w : World} {g n : Nat} (h : Blk w g n) {i : Nat} (hi : i < n * 5) : ∃ v, w.cell? ⟨g, i, none⟩ = some v := by
  obtain ⟨cs, h, hs⟩ := h
  exact ⟨cs[i], by rw [cell_of_row w g i cs 37 (0, 0) h]; exact Array.getElem?_eq_getElem (by omega)⟩
theorem Blk.frozen {w : World} {g n : Nat} (h : Blk w g n) (i : Nat) : w.frozen? ⟨g, i, none⟩ = false := by
  obtain ⟨cs, h, _⟩ := h
  simp [World.frozen?, h]
theorem Blk.kept {w w' : World} {g n : Nat} (h : Blk w g n) (hk : w'.heap[g]? = w.heap[g]?) : Blk w' g n := by
  obtain ⟨cs, h, hs⟩ := h
  exact ⟨cs, hk.trans h, hs⟩
theorem Blk.below {w w' : World} {B g n : Nat} (h : Blk w g n) (hb : Below B w w') (hg : g < B) : Blk w' g n := h.kept (hb.block g hg)
theorem Blk.set {w : World} {g n : Nat} (h : Blk w g n) (p : Addr) (u : Value) (hp : p.spot = none) : Blk (w.setCell p u) g n := by
  by_cases e : g = p.block
  · obtain ⟨cs, h, hs⟩ := h
    refine ⟨cs.setIfInBounds p.off u, ?_, by simpa using hs⟩
    subst e
    obtain ⟨b, o, s⟩ := p
    obtain rfl : s = none := hp
    simp [World.setCell, Array.getElem?_modify, h]
  · exact h.kept (Below.heap_setCell w p u g e)

/-- A row whose memory is its owner's. -/
def Mine (w : World) (A : Option Addr) (n : Nat) : Prop := 0 < n → ∃ g, A = some ⟨g, 0, none⟩ ∧ Blk w g n
theorem Mine.kept {w w' : World} {lo B : Nat} {A : Option Addr} {n : Nat} (h : Mine w A n) (hA : ∀ g, A = some ⟨g, 0, none⟩ → lo ≤ g ∧ g < B) (hk : Kept lo B w w') : Mine w' A n := fun h0 => by
  obtain ⟨g, e, hb⟩ := h h0
  exact ⟨g, e, hb.kept (hk g (hA g e).1 (hA g e).2)⟩

/-- Five cells written, one behind the other. -/
abbrev put5 (w : World) (g o : Nat) (v0 v1 v2 v3 v4 : Value) : World :=
  ((((w.setCell ⟨g, o, none⟩ v0).setCell ⟨g, o + 1, none⟩ v1).setCell ⟨g, o + 2, none⟩ v2).setCell ⟨g, o + 3, none⟩ v3).setCell ⟨g, o + 4, none⟩ v4
theorem set_heap (w : World) (g o : Nat) (u : Value) (cs : Array Value) (h : w.heap[g]? = some (.cells cs 37 (0, 0))) : (w.setCell ⟨g, o, none⟩ u).heap[g]? = some (.cells (cs.setIfInBounds o u) 37 (0, 0)) := by
  simp [World.setCell, Array.getElem?_modify, h]
theorem put5_heap (w : World) (g o : Nat) (v0 v1 v2 v3 v4 : Value) (cs : Array Value) (h : w.heap[g]? = some (.cells cs 37 (0, 0))) :
    (put5 w g o v0 v1 v2 v3 v4).heap[g]? = some (.cells (((((cs.setIfInBounds o v0).setIfInBounds (o + 1) v1).setIfInBounds (o + 2) v2).setIfInBounds (o + 3) v3).setIfInBounds (o + 4) v4) 37 (0, 0)) :=
  set_heap _ _ _ _ _ (set_heap _ _ _ _ _ (set_heap _ _ _ _ _ (set_heap _ _ _ _ _ (set_heap _ _ _ _ _ h))))
theorem put5_size (w : World) (g o : Nat) (v0 v1 v2 v3 v4 : Value) : (put5 w g o v0 v1 v2 v3 v4).heap.size = w.heap.size := by simp [put5, World.setCell]
theorem put5_far (w : World) (g o : Nat) (v0 v1 v2 v3 v4 : Value) (k : Nat) (hk : k ≠ g) : (put5 w g o v0 v1 v2 v3 v4).heap[k]? = w.heap[k]? := by
  unfold put5
  rw [Below.heap_setCell _ _ _ _ hk, Below.heap_setCell _ _ _ _ hk, Below.heap_setCell _ _ _ _ hk, Below.heap_setCell _ _ _ _ hk, Below.heap_setCell _ _ _ _ hk]
theorem put5_blk {w : World} {g n : Nat} (h : Blk w g n) (o : Nat) (v0 v1 v2 v3 v4 : Value) : Blk (put5 w g o v0 v1 v2 v3 v4) g n :=
  ((((h.set _ _ rfl).set _ _ rfl).set _ _ rfl).set _ _ rfl).set _ _ rfl
theorem put5_at {w : World} {g n : Nat} (h : Blk w g n) (o : Nat) (ho : o + 5 ≤ n * 5) (v0 v1 v2 v3 v4 : Value) :
    (put5 w g o v0 v1 v2 v3 v4).cell? ⟨g, o, none⟩ = some v0 ∧ (put5 w g o v0 v1 v2 v3 v4).cell? ⟨g, o + 1, none⟩ = some v1 ∧ (put5 w g o v0 v1 v2 v3 v4).cell? ⟨g, o + 2, none⟩ = some v2 ∧ (put5 w g o v0 v1 v2 v3 v4).cell? ⟨g, o + 3, none⟩ = some v3 ∧ (put5 w g o v0 v1 v2 v3 v4).cell? ⟨g, o + 4, none⟩ = some v4 := by
  obtain ⟨cs, h, hs⟩ := h
  have hh := put5_heap w g o v0 v1 v2 v3 v4 cs h
  refine ⟨?_, ?_, ?_, ?_, ?_⟩ <;> (rw [cell_of_row _ _ _ _ _ _ hh]; simp [Array.getElem?_setIfInBounds]; omega)
theorem put5_off {w : World} {g n : Nat} (h : Blk w g n) (o j : Nat) (hj : j < o ∨ o + 5 ≤ j) (v0 v1 v2 v3 v4 : Value) : (put5 w g o v0 v1 v2 v3 v4).cell? ⟨g, j, none⟩ = w.cell? ⟨g, j, none⟩ := by
  obtain ⟨cs, h, hs⟩ := h
  rw [cell_of_row _ _ _ _ _ _ (put5_heap w g o v0 v1 v2 v3 v4 cs h), cell_of_row _ _ _ _ _ _ h]
  have e0 : ¬ o = j := by omega
  have e1 : ¬ o + 1 = j := by omega
  have e2 : ¬ o + 2 = j := by omega
  have e3 : ¬ o + 3 = j := by omega
  have e4 : ¬ o + 4 = j := by omega
  simp [e0, e1, e2, e3, e4]

/-- What a maker hands on: a value in new memory. -/
def New (w : World) (d : Nat) (t : V) (e : Ending) (w' : World) : Prop :=
  ∃ A c A' c', e = .returned (vl t A c A' c') ∧ Rd w' w.heap.size w'.heap.size d t A c A' c' ∧ Mine w' A t.l.length ∧ Mine w' A' t.m.length ∧ Below w.heap.size w w'
def NewRow (w : World) (d : Nat) (l : List V) (e : Ending) (w' : World) : Prop :=
  ∃ A c, e = .returned (.slice A l.length c) ∧ Rw w' w.heap.size w'.heap.size d A c l ∧ Mine w' A l.length ∧ Below w.heap.size w w'

theorem info24 : (Try.prog.info? 37).map (fun i => (i.zero, i.size, i.bytes)) = some (some (.agg #[.int .i64 0, .int .i64 0, .string ⟨#[]⟩, .slice none 0 0, .slice none 0 0]), 5, 80) := by kernel_rfl
/-- A row of n values that are nothing. -/
def zrow (n : Nat) : Array Value := madeCells #[.int .i64 0, .int .i64 0, .string ⟨#[]⟩, .slice none 0 0, .slice none 0 0] (n * 5)
theorem make24 (n : Nat) (hn : n ≤ 1759218604441) (W : World) : (Instr.makeSlice 35 (.int .i64 (n : Int)) (.int .i64 (n : Int))).run Try.prog W = .ok (.slice (some ⟨W.heap.size, 0, none⟩) n n) (W.alloc (.cells (zrow n) 37)) := by
  obtain ⟨i0, hi, hz0, hz1, hz2⟩ := info_parts info24
  have := run_make (P := Try.prog) W 35 37 i0 _ Try.underlying35 hi hz0 .i64 .i64 (n : Int) (n : Int) (by omega) (Int.le_refl _) (by rw [hz2]; omega) (by omega)
  rw [this, hz1]; rfl
theorem blk_made (w : World) (n : Nat) : Blk (w.alloc (.cells (zrow n) 37)) w.heap.size n := ⟨zrow n, heap_alloc_new w _, size_madeCells _ _⟩

/-- So far as a row of copies is filled. -/
structure Fill (w : World) (g n d : Nat) (done : List V) : Prop where
  blk : Blk w g n
  el : ∀ j t, done[j]? = some t → ∃ A1 c1 A2 c2, cells5 w g (j * 5) t A1 c1 A2 c2 ∧ Rd w (g + 1) w.heap.size d t A1 c1 A2 c2

theorem Fill.next {w w' : World} {g n d : Nat} {done : List V} (h : Fill w g n d done) (hb : Below w.heap.size w w') : Fill w' g n d done :=
  ⟨h.blk.below hb h.blk.lt, fun j t hj => by
    obtain ⟨A1, c1, A2, c2, q, rd⟩ := h.el j t hj
    exact ⟨A1, c1, A2, c2, q.keep (lo := 0) (Kept.of_below hb (Nat.le_refl _)) (Nat.zero_le _) h.blk.lt, Rd.imp (Kept.of_below hb (Nat.le_refl _)) (Nat.le_refl _) hb.size (Nat.le_refl _) rd⟩⟩
theorem Fill.put {w : World} {g n d : Nat} {done : List V} (h : Fill w g n d done) (k : Nat) (hk : done.length = k) (hn : k < n) {t : V} {A : Option Addr} {c : Nat} {A' : Option Addr} {c' : Nat} (rd : Rd w (g + 1) w.heap.size d t A c A' c') :
    Fill (put5 w g (k * 5) (.int .i64 t.k) (.int .i64 t.n) (.string t.s) (.slice A t.l.length c) (.slice A' t.m.length c')) g n d (done ++ [t]) := by
  have hkept : Kept (g + 1) w.heap.size w (put5 w g (k * 5) (.int .i64 t.k) (.int .i64 t.n) (.string t.s) (.slice A t.l.length c) (.slice A' t.m.length c')) := fun i h1 _ => put5_far _ _ _ _ _ _ _ _ i (by omega)
  refine ⟨put5_blk h.blk _ _ _ _ _ _, fun j u hj => ?_⟩
  rw [put5_size]
  by_cases e : j = k
  · subst e
    rw [List.getElem?_append_right (by omega), hk, Nat.sub_self] at hj
    simp at hj
    subst hj
    obtain ⟨a0, a1, a2, a3, a4⟩ := put5_at h.blk (j * 5) (by omega) (.int .i64 t.k) (.int .i64 t.n) (.string t.s) (.slice A t.l.length c) (.slice A' t.m.length c')
    exact ⟨A, c, A', c', ⟨a0, a1, a2, a3, a4⟩, rd.keep hkept⟩
  · have hjd : j < done.length := by
      rcases Nat.lt_or_ge j (done ++ [t]).length with h1 | h1
      · simp at h1; omega
      · rw [List.getElem?_eq_none h1] at hj; cases hj
    rw [List.getElem?_append_left hjd] at hj
    obtain ⟨A1, c1, A2, c2, q, r1⟩ := h.el j u hj
    have ho := fun i (hi : i < 5) => put5_off h.blk (k * 5) (j * 5 + i) (by omega) (.int .i64 t.k) (.int .i64 t.n) (.string t.s) (.slice A t.l.length c) (.slice A' t.m.length c')
    exact ⟨A1, c1, A2, c2, ⟨(ho 0 (by omega)).trans q.c0, (ho 1 (by omega)).trans q.c1, (ho 2 (by omega)).trans q.c2, (ho 3 (by omega)).trans q.c3, (ho 4 (by omega)).trans q.c4⟩, r1.keep hkept⟩
theorem Fill.row {w : World} {g n d : Nat} {l : List V} (h : Fill w g n d l) (hl : l.length = n) (hn : n ≤ 1759218604441) (lo : Nat) (hlo : lo ≤ g) : Rw w lo w.heap.size d (some ⟨g, 0, none⟩) n l :=
  ⟨by omega, by unfold maxLen; omega, by omega, (fun e => by cases e), fun _ => ⟨g, 0, rfl, hlo, h.blk.lt, fun j t hj => by
    obtain ⟨A1, c1, A2, c2, q, rd⟩ := h.el j t hj
    exact ⟨A1, c1, A2, c2, by rw [Nat.zero_add]; exact q, rd.more (by omega) (Nat.le_refl _) (Nat.le_refl _)⟩⟩⟩
theorem take_map_next {α β : Type} (f : α → β) (l : List α) (k : Nat) {x : α} (hx : l[k]? = some x) : (l.take (k + 1)).map f = (l.take k).map f ++ [f x] := by
  obtain ⟨h1, e1⟩ := List.getElem?_eq_some_iff.1 hx
  rw [List.take_succ_eq_append_getElem h1, e1, List.map_append]; rfl

/-- value.copyAt, r levels above the last one. -/
def CopyAt (r : Nat) : Prop :=
  ∀ (w : World) (da : Nat) (a : V) (A : Option Addr) (c : Nat) (A' : Option Addr) (c' : Nat) (lev : Int), lev = 13 - r → r ≤ 12 → Rd w 0 w.heap.size da a A c A' c' →
    Calls Try.prog 60 #[vl a A c A' c', .int .i64 lev] w (New w (r + 1) (copyV r a))

set_option maxHeartbeats 1600000 in
theorem copyRow_any (r : Nat) (ih : CopyAt r) (hr : r ≤ 12) (w : World) (d : Nat) (A : Option Addr) (c : Nat) (l : List V) (lev : Int) (hlev : lev = 13 - r) (h : Rw w 0 w.heap.size d A c l) :
    Calls Try.prog 77 #[.slice A l.length c, .int .i64 lev] w (NewRow w (r + 1) (l.map (copyV r))) := by
  have IH := Lib.hid ih
  have HL := Lib.hid hlev
  have H := Lib.hid h
  have hbig := h.big
  have hmk := make24 l.length hbig
  clear ih hlev h
  by_cases h0 : l.length = 0
  · have e0 : ((l.length : Int) == 0) = true := by rw [h0]; rfl
    obtain rfl : l = [] := List.eq_nil_of_length_eq_zero h0
    clear hmk
    go_enter Try.func77, Try.ntmps77
    go_wp2
    go_ret
    exact ⟨none, 0, rfl, rw_nil _ _ _ _, fun h => absurd h (by simp), Below.refl _ _⟩
  · have e0 : ((l.length : Int) == 0) = false := beq_eq_false_iff_ne.2 (by omega)
    go_enter Try.func77, Try.ntmps77
    go_wp2
    have hb0 := blk_made w l.length
    generalize hX : World.alloc w _ = X at hb0
    have hBX : Below w.heap.size w X := by rw [← hX]; exact below_new _ _
    have hS : X.heap.size = w.heap.size + 1 := by rw [← hX]; simp
    have F0 := Lib.hid (show Fill X w.heap.size l.length (r + 1) [] from ⟨hb0, fun j t h => by simp at h⟩)
    have BX := Lib.hid hBX
    have SX := Lib.hid hS
    clear hb0 hBX hS hX
    go_loopw [16] (fun i wr => ∃ k : Nat, k ≤ l.length ∧ i = .int .i64 k ∧ Hid (Below w.heap.size w wr) ∧ Hid (w.heap.size + 1 ≤ wr.heap.size) ∧ Hid (Fill wr w.heap.size l.length (r + 1) ((l.take k).map (copyV r)))) (fun i _ => l.length - (intOf i).toNat)
    case atStart => exact ⟨0, by omega, rfl, BX, Lib.hid (by rw [SX.out]; omega), by simpa using F0⟩
    case round =>
      obtain ⟨k, hk, rfl, hbel, hsz, hF⟩ := hrel
      by_cases hlt : k < l.length
      · obtain ⟨b, off, x, A1, c1, A2, c2, rfl, _, hb, hx, q, rx⟩ := (H.out.next hbel.out).elem hlt
        obtain ⟨q0, q1, q2, q3, q4⟩ := q
        have RX := Lib.hid rx
        have HX := Lib.hid hx
        clear rx hx
        go_wp2_with fail
        refine (IH.out _ _ x _ _ _ _ lev HL.out hr (RX.out.next (below_new _ _))).mono ?_
        rintro e w1 ⟨D, e1, D', e2, rfl, rd, _, _, hb1⟩
        have hB1 : Below wr.heap.size wr w1 := bnext (below_new _ _) hb1
        have hbk := (hF.out.blk).below hB1 hF.out.blk.lt
        obtain ⟨v0, f0⟩ := hbk.cell (i := k * 5) (by omega)
        obtain ⟨v1, f1⟩ := hbk.cell (i := k * 5 + 1) (by omega)
        obtain ⟨v2, f2⟩ := hbk.cell (i := k * 5 + 2) (by omega)
        obtain ⟨v3, f3⟩ := hbk.cell (i := k * 5 + 3) (by omega)
        obtain ⟨v4, f4⟩ := hbk.cell (i := k * 5 + 4) (by omega)
        have z0 := hbk.frozen (k * 5)
        have z1 := hbk.frozen (k * 5 + 1)
        have z2 := hbk.frozen (k * 5 + 2)
        have z3 := hbk.frozen (k * 5 + 3)
        have z4 := hbk.frozen (k * 5 + 4)
        have RD := Lib.hid rd
        have HB := Lib.hid hb1
        have HB1 := Lib.hid hB1
        clear rd hb1 hB1 hbk
        go_wp2
        have hgw : w.heap.size < wr.heap.size := by have := hsz.out; omega
        have FP := Lib.hid ((hF.out.next HB1.out).put k (by simp; omega) hlt (RD.out.more (lo' := w.heap.size + 1) (by have := hsz.out; simp; omega) (Nat.le_refl _) (Nat.le_refl _)))
        rw [← take_map_next (copyV r) l k HX.out] at FP
        have BW := Lib.hid (show Below w.heap.size w w1 from hbel.out.trans (HB1.out.mono (by omega)))
        go_roundw
        case rel => exact ⟨k + 1, by omega, by go_num, Lib.hid (((((BW.out.setCell (Nat.le_refl _) _).setCell (Nat.le_refl _) _).setCell (Nat.le_refl _) _).setCell (Nat.le_refl _) _).setCell (Nat.le_refl _) _), Lib.hid (by have := BW.out.size; have := HB1.out.size; rw [put5_size]; omega), FP⟩
        case measure => simp [intOf]; omega
      · obtain rfl : k = l.length := by omega
        rw [List.take_length] at hF
        have L1 := Lib.hid (show (l.map (copyV r)).length = l.length by simp)
        go_wp2
        go_ret
        exact ⟨some ⟨w.heap.size, 0, none⟩, l.length, by rw [L1.out]; rfl, hF.out.row L1.out hbig _ (Nat.le_refl _), fun _ => ⟨_, rfl, by rw [L1.out]; exact hF.out.blk⟩, hbel.out⟩
end Go.Proofs.Ytciipggccjiaiaa

