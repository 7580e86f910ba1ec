/- Carried over from an earlier seat. -/
import Derived.Test.YtiiopbcihieblaaGreatDoorPD
import Derived.Test.YtiiopbcihieblaaGreatDoorCVI
namespace Go.Proofs.YtiiopbcihieblaaGreatDoor
set_option maxRecDepth 100000
set_option maxRecDepth 100000
set_option maxRecDepth 100000
open Go.RowKit Go.Sort

/-- A block of values that is known whole. -/
def BlkP (w : World) (g n : Nat) : Prop := ∃ cs : Array Value, w.heap[g]? = some (.cells cs 42 (0, 0)) ∧ cs.size = n * 3
theorem BlkP.lt {w : World} {g n : Nat} (h : BlkP w g n) : g < w.heap.size := by
  obtain ⟨cs, h, _⟩ := h
  exact (Array.getElem?_eq_some_iff.1 h).1
theorem BlkP.cell {w : World} {g n : Nat} (h : BlkP w g n) {i : Nat} (hi : i < n * 3) : ∃ v, w.cell? ⟨g, i, none⟩ = some v := by
  obtain ⟨cs, h, hs⟩ := h
  exact ⟨cs[i], by rw [cell_of_row w g i cs 42 (0, 0) h]; exact Array.getElem?_eq_getElem (by omega)⟩
theorem BlkP.frozen {w : World} {g n : Nat} (h : BlkP w g n) (i : Nat) : w.frozen? ⟨g, i, none⟩ = false := by
  obtain ⟨cs, h, _⟩ := h
  simp [World.frozen?, h]
theorem BlkP.kept {w w' : World} {g n : Nat} (h : BlkP w g n) (hk : w'.heap[g]? = w.heap[g]?) : BlkP w' g n := by
  obtain ⟨cs, h, hs⟩ := h
  exact ⟨cs, hk.trans h, hs⟩
theorem BlkP.below {w w' : World} {B g n : Nat} (h : BlkP w g n) (hb : Below B w w') (hg : g < B) : BlkP w' g n := h.kept (hb.block g hg)
theorem BlkP.set {w : World} {g n : Nat} (h : BlkP w g n) (p : Addr) (u : Value) (hp : p.spot = none) : BlkP (w.setCell p u) g n := by
  by_cases e : g = p.block
  · obtain ⟨cs, h, hs⟩ := h
    refine ⟨cs.setIfInBounds p.off u, ?_, by simpa using hs⟩
    subst e
    obtain ⟨b, o, s⟩ := p
    obtain rfl : s = none := hp
    simp [World.setCell, Array.getElem?_modify, h]
  · exact h.kept (Below.heap_setCell w p u g e)

/-- A row whose memory is its owner's. -/
def MineP (w : World) (A : Option Addr) (n : Nat) : Prop := 0 < n → ∃ g, A = some ⟨g, 0, none⟩ ∧ BlkP w g n
theorem MineP.kept {w w' : World} {lo B : Nat} {A : Option Addr} {n : Nat} (h : MineP w A n) (hA : ∀ g, A = some ⟨g, 0, none⟩ → lo ≤ g ∧ g < B) (hk : Kept lo B w w') : MineP w' A n := fun h0 => by
  obtain ⟨g, e, hb⟩ := h h0
  exact ⟨g, e, hb.kept (hk g (hA g e).1 (hA g e).2)⟩

/-- Three cells written, one behind the other. -/
abbrev put3 (w : World) (g o : Nat) (v0 v1 v2 : Value) : World :=
  ((w.setCell ⟨g, o, none⟩ v0).setCell ⟨g, o + 1, none⟩ v1).setCell ⟨g, o + 2, none⟩ v2
theorem set_heapP (w : World) (g o : Nat) (u : Value) (cs : Array Value) (h : w.heap[g]? = some (.cells cs 42 (0, 0))) : (w.setCell ⟨g, o, none⟩ u).heap[g]? = some (.cells (cs.setIfInBounds o u) 42 (0, 0)) := by
  simp [World.setCell, Array.getElem?_modify, h]
theorem put3_heap (w : World) (g o : Nat) (v0 v1 v2 : Value) (cs : Array Value) (h : w.heap[g]? = some (.cells cs 42 (0, 0))) :
    (put3 w g o v0 v1 v2).heap[g]? = some (.cells (((cs.setIfInBounds o v0).setIfInBounds (o + 1) v1).setIfInBounds (o + 2) v2) 42 (0, 0)) :=
  set_heapP _ _ _ _ _ (set_heapP _ _ _ _ _ (set_heapP _ _ _ _ _ h))
theorem put3_size (w : World) (g o : Nat) (v0 v1 v2 : Value) : (put3 w g o v0 v1 v2).heap.size = w.heap.size := by simp [put3, World.setCell]
theorem put3_far (w : World) (g o : Nat) (v0 v1 v2 : Value) (k : Nat) (hk : k ≠ g) : (put3 w g o v0 v1 v2).heap[k]? = w.heap[k]? := by
  unfold put3
  rw [Below.heap_setCell _ _ _ _ hk, Below.heap_setCell _ _ _ _ hk, Below.heap_setCell _ _ _ _ hk]
theorem put3_blk {w : World} {g n : Nat} (h : BlkP w g n) (o : Nat) (v0 v1 v2 : Value) : BlkP (put3 w g o v0 v1 v2) g n :=
  ((h.set _ _ rfl).set _ _ rfl).set _ _ rfl
theorem put3_at {w : World} {g n : Nat} (h : BlkP w g n) (o : Nat) (ho : o + 3 ≤ n * 3) (v0 v1 v2 : Value) :
    (put3 w g o v0 v1 v2).cell? ⟨g, o, none⟩ = some v0 ∧ (put3 w g o v0 v1 v2).cell? ⟨g, o + 1, none⟩ = some v1 ∧ (put3 w g o v0 v1 v2).cell? ⟨g, o + 2, none⟩ = some v2 := by
  obtain ⟨cs, h, hs⟩ := h
  have hh := put3_heap w g o v0 v1 v2 cs h
  refine ⟨?_, ?_, ?_⟩ <;> (rw [cell_of_row _ _ _ _ _ _ hh]; simp [Array.getElem?_setIfInBounds]; omega)
theorem put3_off {w : World} {g n : Nat} (h : BlkP w g n) (o j : Nat) (hj : j < o ∨ o + 3 ≤ j) (v0 v1 v2 : Value) : (put3 w g o v0 v1 v2).cell? ⟨g, j, none⟩ = w.cell? ⟨g, j, none⟩ := by
  obtain ⟨cs, h, hs⟩ := h
  rw [cell_of_row _ _ _ _ _ _ (put3_heap w g o v0 v1 v2 cs h), cell_of_row _ _ _ _ _ _ h]
  have e0 : ¬ o = j := by omega
  have e1 : ¬ o + 1 = j := by omega
  have e2 : ¬ o + 2 = j := by omega
  simp [e0, e1, e2]

/-- What a maker hands on: rows, and a predicate, in new memory. -/
def NewVs (w : World) (l : List V) (e : Ending) (w' : World) : Prop :=
  ∃ A c n, e = .returned (.slice A l.length c) ∧ Rw w' w.heap.size w'.heap.size n A c l ∧ Mine w' A l.length ∧ Below w.heap.size w w'
def NewPs (w : World) (d : Nat) (l : List P) (e : Ending) (w' : World) : Prop :=
  ∃ A c, e = .returned (.slice A l.length c) ∧ Pw w' w.heap.size w'.heap.size d A c l ∧ MineP w' A l.length ∧ Below w.heap.size w w'
def NewP (w : World) (d : Nat) (t : P) (e : Ending) (w' : World) : Prop :=
  ∃ A c A' c', e = .returned (pl t A c A' c') ∧ Pd w' w.heap.size w'.heap.size d t A c A' c' ∧ Mine w' A t.v.length ∧ MineP w' A' t.p.length ∧ Below w.heap.size w w'

theorem info25 : (Tryz.prog.info? 42).map (fun i => (i.zero, i.size, i.bytes)) = some (some (.agg #[.int .i64 0, .slice none 0 0, .slice none 0 0]), 3, 56) := by kernel_rfl
/-- A row of n predicates that are nothing. -/
def zrowP (n : Nat) : Array Value := madeCells #[.int .i64 0, .slice none 0 0, .slice none 0 0] (n * 3)
theorem make25 (n : Nat) (hn : n ≤ 2513169434843) (W : World) : (Instr.makeSlice 40 (.int .i64 (n : Int)) (.int .i64 (n : Int))).run Tryz.prog W = .ok (.slice (some ⟨W.heap.size, 0, none⟩) n n) (W.alloc (.cells (zrowP n) 42)) := by
  obtain ⟨i0, hi, hz0, hz1, hz2⟩ := info_parts info25
  have := run_make (P := Tryz.prog) W 40 42 i0 _ Tryz.underlying40 hi hz0 .i64 .i64 (n : Int) (n : Int) (by omega) (Int.le_refl _) (by rw [hz2]; omega) (by omega)
  rw [this, hz1]; rfl
theorem blkP_made (w : World) (n : Nat) : BlkP (w.alloc (.cells (zrowP n) 42)) w.heap.size n := ⟨zrowP n, heap_alloc_new w _, size_madeCells _ _⟩

/-- So far as a row is filled. -/
structure FillP (w : World) (g n d : Nat) (done : List P) : Prop where
  blk : BlkP w g n
  el : ∀ j t, done[j]? = some t → ∃ A1 c1 A2 c2, cells3 w g (j * 3) t A1 c1 A2 c2 ∧ Pd w (g + 1) w.heap.size d t A1 c1 A2 c2
theorem FillP.next {w w' : World} {g n d : Nat} {done : List P} (h : FillP w g n d done) (hb : Below w.heap.size w w') : FillP w' g n d done :=
  ⟨h.blk.below hb h.blk.lt, fun j t hj => by
    obtain ⟨A1, c1, A2, c2, q, rd⟩ := h.el j t hj
    exact ⟨A1, c1, A2, c2, q.keep (lo := 0) (Kept.of_below hb (Nat.le_refl _)) (Nat.zero_le _) h.blk.lt, Pd.imp (Kept.of_below hb (Nat.le_refl _)) (Nat.le_refl _) hb.size (Nat.le_refl _) rd⟩⟩
theorem FillP.put {w : World} {g n d : Nat} {done : List P} (h : FillP w g n d done) (k : Nat) (hk : done.length = k) (hn : k < n) {t : P} {A : Option Addr} {c : Nat} {A' : Option Addr} {c' : Nat} (rd : Pd w (g + 1) w.heap.size d t A c A' c') :
    FillP (put3 w g (k * 3) (.int .i64 t.k) (.slice A t.v.length c) (.slice A' t.p.length c')) g n d (done ++ [t]) := by
  have hkept : Kept (g + 1) w.heap.size w (put3 w g (k * 3) (.int .i64 t.k) (.slice A t.v.length c) (.slice A' t.p.length c')) := fun i h1 _ => put3_far _ _ _ _ _ _ i (by omega)
  refine ⟨put3_blk h.blk _ _ _ _, fun j u hj => ?_⟩
  rw [put3_size]
  by_cases e : j = k
  · subst e
    rw [List.getElem?_append_right (by omega), hk, Nat.sub_self] at hj
    simp at hj
    subst hj
    obtain ⟨a0, a1, a2⟩ := put3_at h.blk (j * 3) (by omega) (.int .i64 t.k) (.slice A t.v.length c) (.slice A' t.p.length c')
    exact ⟨A, c, A', c', ⟨a0, a1, a2⟩, rd.keep hkept⟩
  · have hjd : j < done.length := by
      rcases Nat.lt_or_ge j (done ++ [t]).length with h1 | h1
      · simp at h1; omega
      · rw [List.getElem?_eq_none h1] at hj; cases hj
    rw [List.getElem?_append_left hjd] at hj
    obtain ⟨A1, c1, A2, c2, q, r1⟩ := h.el j u hj
    have ho := fun i (hi : i < 3) => put3_off h.blk (k * 3) (j * 3 + i) (by omega) (.int .i64 t.k) (.slice A t.v.length c) (.slice A' t.p.length c')
    exact ⟨A1, c1, A2, c2, ⟨(ho 0 (by omega)).trans q.c0, (ho 1 (by omega)).trans q.c1, (ho 2 (by omega)).trans q.c2⟩, r1.keep hkept⟩
theorem FillP.row {w : World} {g n d : Nat} {l : List P} (h : FillP w g n d l) (hl : l.length = n) (hn : n ≤ 2513169434843) (lo : Nat) (hlo : lo ≤ g) : Pw w lo w.heap.size d (some ⟨g, 0, none⟩) n l :=
  ⟨by omega, by unfold maxLen; omega, by omega, (fun e => by cases e), fun _ => ⟨g, 0, rfl, hlo, h.blk.lt, fun j t hj => by
    obtain ⟨A1, c1, A2, c2, q, rd⟩ := h.el j t hj
    exact ⟨A1, c1, A2, c2, by rw [Nat.zero_add]; exact q, rd.more (by omega) (Nat.le_refl _) (Nat.le_refl _)⟩⟩⟩

theorem enters54 : Enters 103 := fun _ _ => rfl
set_option maxHeartbeats 1600000 in
/-- pred.each of values, with their copies. -/
theorem eachV_any (w : World) (d : Nat) (A : Option Addr) (c : Nat) (l : List V) (h : Rw w 0 w.heap.size d A c l) :
    Calls Tryz.prog 104 #[.slice A l.length c, .func (.func 53) #[] #[]] w (NewVs w (l.map (copyV 12))) := by
  have H := Lib.hid h
  have hbig := h.big
  have hmk := make24 l.length hbig
  clear h
  by_cases h0 : l.length = 0
  · have e0 : ((l.length : Int) == 0) = true := by rw [h0]; rfl
    obtain rfl : l = [] := List.eq_nil_of_length_eq_zero h0
    clear hmk
    go_enter Tryz.func104, Tryz.ntmps104
    go_wp2
    go_ret
    exact ⟨none, 0, 0, rfl, rw_nil _ _ _ _, fun h => absurd h (by simp), Below.refl _ _⟩
  · have e0 : ((l.length : Int) == 0) = false := beq_eq_false_iff_ne.2 (by omega)
    go_enter Tryz.func104, Tryz.ntmps104
    go_wp2
    have hb0 := blk_made w l.length
    generalize hX : World.alloc w _ = X at hb0
    have hBX : Below w.heap.size w X := by rw [← hX]; exact below_new _ _
    have hS : X.heap.size = w.heap.size + 1 := by rw [← hX]; simp
    have F0 := Lib.hid (show Fill X w.heap.size l.length 13 [] from ⟨hb0, fun j t h => by simp at h⟩)
    have BX := Lib.hid hBX
    have SX := Lib.hid hS
    clear hb0 hBX hS hX
    go_loopw [16] (fun i wr => ∃ k : Nat, k ≤ l.length ∧ i = .int .i64 k ∧ Hid (Below w.heap.size w wr) ∧ Hid (w.heap.size + 1 ≤ wr.heap.size) ∧ Hid (Fill wr w.heap.size l.length 13 ((l.take k).map (copyV 12)))) (fun i _ => l.length - (intOf i).toNat)
    case atStart => exact ⟨0, by omega, rfl, BX, Lib.hid (by rw [SX.out]; omega), by simpa using F0⟩
    case round =>
      obtain ⟨k, hk, rfl, hbel, hsz, hF⟩ := hrel
      by_cases hlt : k < l.length
      · obtain ⟨b, off, x, A1, c1, A2, c2, rfl, _, hb, hx, q, rx⟩ := (H.out.next hbel.out).elem hlt
        obtain ⟨q0, q1, q2, q3, q4⟩ := q
        have RX := Lib.hid rx
        have HX := Lib.hid hx
        clear rx hx
        go_wp2_with fail
        refine (copy_any _ _ x _ _ _ _ (RX.out.next (below_new _ _))).mono ?_
        rintro e w1 ⟨D, e1, D', e2, rfl, rd, _, _, hb1⟩
        have hB1 : Below wr.heap.size wr w1 := bnext (below_new _ _) hb1
        have hbk := (hF.out.blk).below hB1 hF.out.blk.lt
        obtain ⟨v0, f0⟩ := hbk.cell (i := k * 5) (by omega)
        obtain ⟨v1, f1⟩ := hbk.cell (i := k * 5 + 1) (by omega)
        obtain ⟨v2, f2⟩ := hbk.cell (i := k * 5 + 2) (by omega)
        obtain ⟨v3, f3⟩ := hbk.cell (i := k * 5 + 3) (by omega)
        obtain ⟨v4, f4⟩ := hbk.cell (i := k * 5 + 4) (by omega)
        have z0 := hbk.frozen (k * 5)
        have z1 := hbk.frozen (k * 5 + 1)
        have z2 := hbk.frozen (k * 5 + 2)
        have z3 := hbk.frozen (k * 5 + 3)
        have z4 := hbk.frozen (k * 5 + 4)
        have RD := Lib.hid rd
        have HB := Lib.hid hb1
        have HB1 := Lib.hid hB1
        clear rd hb1 hB1 hbk
        go_wp2
        have hgw : w.heap.size < wr.heap.size := by have := hsz.out; omega
        have FP := Lib.hid ((hF.out.next HB1.out).put k (by simp; omega) hlt (RD.out.more (lo' := w.heap.size + 1) (by have := hsz.out; simp; omega) (Nat.le_refl _) (Nat.le_refl _)))
        rw [← take_map_next (copyV 12) l k HX.out] at FP
        have BW := Lib.hid (show Below w.heap.size w w1 from hbel.out.trans (HB1.out.mono (by omega)))
        go_roundw
        case rel => exact ⟨k + 1, by omega, by go_num, Lib.hid (((((BW.out.setCell (Nat.le_refl _) _).setCell (Nat.le_refl _) _).setCell (Nat.le_refl _) _).setCell (Nat.le_refl _) _).setCell (Nat.le_refl _) _), Lib.hid (by have := BW.out.size; have := HB1.out.size; rw [put5_size]; omega), FP⟩
        case measure => simp [intOf]; omega
      · obtain rfl : k = l.length := by omega
        rw [List.take_length] at hF
        have L1 := Lib.hid (show (l.map (copyV 12)).length = l.length by simp)
        go_wp2
        go_ret
        exact ⟨some ⟨w.heap.size, 0, none⟩, l.length, 13, by rw [L1.out]; rfl, hF.out.row L1.out hbig _ (Nat.le_refl _), fun _ => ⟨_, rfl, by rw [L1.out]; exact hF.out.blk⟩, hbel.out⟩

/-- A function value that makes f of a predicate of which S holds. -/
def MakesP (F : Nat) (caps : Array Value) (w : World) (S : P → Prop) (f : P → P) (D : Nat) : Prop :=
  ∀ (W : World) (d : Nat) (x : Pt), S x.t → Below w.heap.size w W → x.In W d → Calls Tryz.prog F (#[x.val] ++ caps) W (NewP W D (f x.t))

set_option maxHeartbeats 1600000 in
/-- pred.each of predicates. -/
theorem eachP_any (F : Nat) (hE : Enters F) (caps : Array Value) (S : P → Prop) (f : P → P) (D : Nat) (w : World) (hcl : MakesP F caps w S f D) (d : Nat) (A : Option Addr) (c : Nat) (l : List P) (hS : ∀ x ∈ l, S x) (h : Pw w 0 w.heap.size d A c l) :
    Calls Tryz.prog 105 #[.slice A l.length c, .func (.func F) #[] caps] w (NewPs w D (l.map f)) := by
  have HC := Lib.hid hcl
  have HS := Lib.hid hS
  have H := Lib.hid h
  have hbig := h.big
  have hmk := make25 l.length hbig
  clear h hcl hS
  by_cases h0 : l.length = 0
  · have e0 : ((l.length : Int) == 0) = true := by rw [h0]; rfl
    obtain rfl : l = [] := List.eq_nil_of_length_eq_zero h0
    clear hmk
    go_enter Tryz.func105, Tryz.ntmps105
    go_wp2
    go_ret
    exact ⟨none, 0, rfl, pw_nil _ _ _ _, fun h => absurd h (by simp), Below.refl _ _⟩
  · have e0 : ((l.length : Int) == 0) = false := beq_eq_false_iff_ne.2 (by omega)
    go_enter Tryz.func105, Tryz.ntmps105
    go_wp2
    have hb0 := blkP_made w l.length
    generalize hX : World.alloc w _ = X at hb0
    have hBX : Below w.heap.size w X := by rw [← hX]; exact below_new _ _
    have hS : X.heap.size = w.heap.size + 1 := by rw [← hX]; simp
    have F0 := Lib.hid (show FillP X w.heap.size l.length D [] from ⟨hb0, fun j t h => by simp at h⟩)
    have BX := Lib.hid hBX
    have SX := Lib.hid hS
    clear hb0 hBX hS hX
    go_loopw [16] (fun i wr => ∃ k : Nat, k ≤ l.length ∧ i = .int .i64 k ∧ Hid (Below w.heap.size w wr) ∧ Hid (w.heap.size + 1 ≤ wr.heap.size) ∧ Hid (FillP wr w.heap.size l.length D ((l.take k).map f))) (fun i _ => l.length - (intOf i).toNat)
    case atStart => exact ⟨0, by omega, rfl, BX, Lib.hid (by rw [SX.out]; omega), by simpa using F0⟩
    case round =>
      obtain ⟨k, hk, rfl, hbel, hsz, hF⟩ := hrel
      by_cases hlt : k < l.length
      · obtain ⟨b, off, x, rfl, _, hb, hx, q, rx⟩ := (H.out.next hbel.out).elem hlt
        obtain ⟨q0, q1, q2⟩ := q
        have RX := Lib.hid rx
        have SX := Lib.hid (HS.out _ (List.mem_of_getElem? hx))
        have HX := Lib.hid hx
        clear rx hx
        go_wp2_with fail
        rw [hE, Oper.upon_enter]
        refine (HC.out _ d x SX.out (hbel.out.trans ((below_new _ _).mono hbel.out.size)) (RX.out.next (below_new _ _))).mono ?_
        rintro e w1 ⟨D1, e1, D', e2, rfl, rd, _, _, hb1⟩
        have hB1 : Below wr.heap.size wr w1 := bnext (below_new _ _) hb1
        have hbk := (hF.out.blk).below hB1 hF.out.blk.lt
        obtain ⟨v0, f0⟩ := hbk.cell (i := k * 3) (by omega)
        obtain ⟨v1, f1⟩ := hbk.cell (i := k * 3 + 1) (by omega)
        obtain ⟨v2, f2⟩ := hbk.cell (i := k * 3 + 2) (by omega)
        have z0 := hbk.frozen (k * 3)
        have z1 := hbk.frozen (k * 3 + 1)
        have z2 := hbk.frozen (k * 3 + 2)
        have RD := Lib.hid rd
        have HB := Lib.hid hb1
        have HB1 := Lib.hid hB1
        clear rd hb1 hB1 hbk
        go_wp2
        have hgw : w.heap.size < wr.heap.size := by have := hsz.out; omega
        have FP := Lib.hid ((hF.out.next HB1.out).put k (by simp; omega) hlt (RD.out.more (lo' := w.heap.size + 1) (by have := hsz.out; simp; omega) (Nat.le_refl _) (Nat.le_refl _)))
        rw [← take_map_next f l k HX.out] at FP
        have BW := Lib.hid (show Below w.heap.size w w1 from hbel.out.trans (HB1.out.mono (by omega)))
        go_roundw
        case rel => exact ⟨k + 1, by omega, by go_num, Lib.hid (((BW.out.setCell (Nat.le_refl _) _).setCell (Nat.le_refl _) _).setCell (Nat.le_refl _) _), Lib.hid (by have := BW.out.size; have := HB1.out.size; rw [put3_size]; omega), FP⟩
        case measure => simp [intOf]; omega
      · obtain rfl : k = l.length := by omega
        rw [List.take_length] at hF
        have L1 := Lib.hid (show (l.map f).length = l.length by simp)
        go_wp2
        go_ret
        exact ⟨some ⟨w.heap.size, 0, none⟩, l.length, by rw [L1.out]; rfl, hF.out.row L1.out hbig _ (Nat.le_refl _), fun _ => ⟨_, rfl, by rw [L1.out]; exact hF.out.blk⟩, hbel.out⟩
end Go.Proofs.YtiiopbcihieblaaGreatDoor


