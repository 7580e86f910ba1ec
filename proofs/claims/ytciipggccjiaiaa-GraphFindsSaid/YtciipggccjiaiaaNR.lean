/- Contracts of graph.copyThings and graph.Copy. -/
import Derived.Test.YtciipggccjiaiaaNO
import Derived.Test.YtciipggccjiaiaaNL
namespace Go.Proofs.Ytciipggccjiaiaa
open Go.RowKit Go.Sort
set_option maxRecDepth 100000

/-- A thing as it is, without where it lies. -/
structure TV where
  id : Int
  label : ByteArray
  o : Int
  i : Int
  l : List (ByteArray × V)
def TA.tv' (t : TA) : TV := ⟨t.id, t.label, t.o, t.i, t.l.map PA.kv⟩
def TA.ctv (t : TA) : TV := ⟨t.id, t.label, t.o, t.i, t.l.map PA.ckv⟩
theorem info34 : (Try.prog.info? 34).map (fun i => (i.zero, i.size, i.bytes)) = some (some (.agg #[.int .i64 0, .string ⟨#[]⟩, .int .i64 0, .int .i64 0, .slice none 0 0]), 5, 64) := by kernel_rfl
def zrowT (n : Nat) : Array Value := madeCells #[.int .i64 0, .string ⟨#[]⟩, .int .i64 0, .int .i64 0, .slice none 0 0] (n * 5)
theorem make34 (n : Nat) (hn : n ≤ 2199023255488) (W : World) : (Instr.makeSlice 22 (.int .i64 (n : Int)) (.int .i64 (n : Int))).run Try.prog W = .ok (.slice (some ⟨W.heap.size, 0, none⟩) n n) (W.alloc (.cells (zrowT n) 34)) := by
  obtain ⟨i0, hi, hz0, hz1, hz2⟩ := info_parts info34
  have := run_make (P := Try.prog) W 22 34 i0 _ Try.underlying22 hi hz0 .i64 .i64 (n : Int) (n : Int) (by omega) (Int.le_refl _) (by rw [hz2]; omega) (by omega)
  rw [this, hz1]; rfl
theorem blkT_made (w : World) (n : Nat) : BlkT (w.alloc (.cells (zrowT n) 34)) w.heap.size n := ⟨zrowT n, heap_alloc_new w _, size_madeCells _ _⟩
/-- A row of things that is owned, all of whose memory lies from lo on. -/
structure FillT (w : World) (g n : Nat) (done : List TA) : Prop where
  blk : BlkT w g n
  el : ∀ j t, done[j]? = some t → cellsT w g (j * 5) t ∧ PRow w (g + 1) 13 t.A t.c t.l ∧ MineP w t.A t.l.length
theorem FillT.next {w w' : World} {g n : Nat} {done : List TA} (h : FillT w g n done) (hb : Below w.heap.size w w') : FillT w' g n done :=
  ⟨h.blk.below hb h.blk.lt, fun j t hj => by
    obtain ⟨q, r, m⟩ := h.el j t hj
    exact ⟨q.next hb h.blk.lt, r.next hb, m.keep r (Kept.of_below hb (Nat.le_refl _))⟩⟩
theorem put5T_off {w : World} {g n : Nat} (h : BlkT w g n) (o j : Nat) (hj : j < o ∨ o + 5 ≤ j) (v0 v1 v2 v3 v4 : Value) : (put5 w g o v0 v1 v2 v3 v4).cell? ⟨g, j, none⟩ = w.cell? ⟨g, j, none⟩ := by
  obtain ⟨cs, h, hs⟩ := h
  rw [cell_of_row _ _ _ _ _ _ (put5T_heap w g o v0 v1 v2 v3 v4 cs h), cell_of_row _ _ _ _ _ _ h]
  have e0 : ¬ o = j := by omega
  have e1 : ¬ o + 1 = j := by omega
  have e2 : ¬ o + 2 = j := by omega
  have e3 : ¬ o + 3 = j := by omega
  have e4 : ¬ o + 4 = j := by omega
  simp [e0, e1, e2, e3, e4]
theorem FillT.put {w : World} {g n : Nat} {done : List TA} (h : FillT w g n done) (k : Nat) (hk : done.length = k) (hn : k < n) {t : TA} (r : PRow w (g + 1) 13 t.A t.c t.l) (m : MineP w t.A t.l.length) :
    FillT (put5 w g (k * 5) (.int .i64 t.id) (.string t.label) (.int .i64 t.o) (.int .i64 t.i) (.slice t.A t.l.length t.c)) g n (done ++ [t]) := by
  have hkept : Kept (g + 1) w.heap.size w (put5 w g (k * 5) (.int .i64 t.id) (.string t.label) (.int .i64 t.o) (.int .i64 t.i) (.slice t.A t.l.length t.c)) := fun i h1 _ => put5_far _ _ _ _ _ _ _ _ i (by omega)
  have hsz : w.heap.size ≤ (put5 w g (k * 5) (.int .i64 t.id) (.string t.label) (.int .i64 t.o) (.int .i64 t.i) (.slice t.A t.l.length t.c)).heap.size := Nat.le_of_eq (put5_size _ _ _ _ _ _ _ _).symm
  refine ⟨put5T_blk h.blk _ _ _ _ _ _, fun j u hj => ?_⟩
  by_cases e : j = k
  · subst e
    rw [List.getElem?_append_right (by omega), hk, Nat.sub_self] at hj
    simp at hj
    subst hj
    obtain ⟨a0, a1, a2, a3, a4⟩ := put5T_at h.blk (j * 5) (by omega) (.int .i64 t.id) (.string t.label) (.int .i64 t.o) (.int .i64 t.i) (.slice t.A t.l.length t.c)
    exact ⟨⟨a0, a1, a2, a3, a4⟩, r.imp hkept (Nat.le_refl _) hsz, m.keep r hkept⟩
  · have hjd : j < done.length := by
      rcases Nat.lt_or_ge j (done ++ [t]).length with h1 | h1
      · simp at h1; omega
      · rw [List.getElem?_eq_none h1] at hj; cases hj
    rw [List.getElem?_append_left hjd] at hj
    obtain ⟨q, r1, m1⟩ := h.el j u hj
    have ho := fun i (hi : i < 5) => put5T_off h.blk (k * 5) (j * 5 + i) (by omega) (.int .i64 t.id) (.string t.label) (.int .i64 t.o) (.int .i64 t.i) (.slice t.A t.l.length t.c)
    exact ⟨⟨(ho 0 (by omega)).trans q.c0, (ho 1 (by omega)).trans q.c1, (ho 2 (by omega)).trans q.c2, (ho 3 (by omega)).trans q.c3, (ho 4 (by omega)).trans q.c4⟩, r1.imp hkept (Nat.le_refl _) hsz, m1.keep r1 hkept⟩
/-- What copyThings gives. -/
def CThings (w : World) (ts : List TA) (e : Ending) (w' : World) : Prop := ∃ A c r, e = .returned (.slice A r.length c) ∧ (r ≠ [] → ∃ g, A = some ⟨g, 0, none⟩ ∧ w.heap.size ≤ g ∧ FillT w' g r.length r) ∧ (r = [] → A = none) ∧ r.length ≤ c ∧ r.map TA.tv' = ts.map TA.ctv ∧ Below w.heap.size w w'

set_option maxHeartbeats 3200000 in
theorem copyThings_any (w : World) (d : Nat) (A : Option Addr) (c : Nat) (ts : List TA) (h : TRow w d A c ts) : Calls Try.prog 30 #[.slice A ts.length c] w (CThings w ts) := by
  have H := Lib.hid h
  have hbig := h.big
  have hmk := make34 ts.length hbig
  clear h
  by_cases h0 : ts.length = 0
  · have e0 : ((ts.length : Int) == 0) = true := by rw [h0]; rfl
    obtain rfl : ts = [] := List.eq_nil_of_length_eq_zero h0
    clear hmk
    go_enter Try.func30, Try.ntmps30
    go_wp2
    go_ret
    exact ⟨none, 0, [], rfl, fun h => absurd rfl h, fun _ => rfl, Nat.le_refl _, rfl, Below.refl _ _⟩
  · have e0 : ((ts.length : Int) == 0) = false := beq_eq_false_iff_ne.2 (by omega)
    go_enter Try.func30, Try.ntmps30
    go_wp2
    have hb0 := blkT_made w ts.length
    generalize hX : World.alloc w _ = X at hb0
    have hBX : Below w.heap.size w X := by rw [← hX]; exact below_new _ _
    have hS : X.heap.size = w.heap.size + 1 := by rw [← hX]; simp
    have F0 := Lib.hid (show FillT X w.heap.size ts.length [] from ⟨hb0, fun j t h => by simp at h⟩)
    have BX := Lib.hid hBX
    have SX := Lib.hid hS
    clear hb0 hBX hS hX
    go_loopw [14] (fun i wr => ∃ (k : Nat) (done : List TA), k ≤ ts.length ∧ i = .int .i64 k ∧ Hid (Below w.heap.size w wr) ∧ Hid (w.heap.size + 1 ≤ wr.heap.size) ∧ Hid (done.map TA.tv' = (ts.take k).map TA.ctv) ∧ Hid (FillT wr w.heap.size ts.length done)) (fun i _ => ts.length - (intOf i).toNat)
    case atStart => exact ⟨0, [], by omega, rfl, BX, Lib.hid (by rw [SX.out]; omega), Lib.hid rfl, F0⟩
    case round =>
      obtain ⟨k, done, hk, rfl, hbel, hsz, hD, hF⟩ := hrel
      by_cases hlt : k < ts.length
      · obtain ⟨b, off, t, rfl, hb, ht, q5, rx⟩ := (H.out.next hbel.out).elem hlt
        obtain ⟨q0, q1, q2, q3, q4⟩ := q5
        have RX := Lib.hid rx
        have HT := Lib.hid ht
        clear rx ht
        go_upto_region 7 with fail
        have k1 := CellT.new wr (.int .i64 t.id) (.string t.label) (.int .i64 t.o) (.int .i64 t.i) (.slice t.A t.l.length t.c)
        generalize hW : World.alloc wr _ = W at k1
        have HBW : Hid (Below wr.heap.size wr W) := Lib.hid (by rw [← hW]; exact below_new _ _)
        clear hW q0 q1 q2 q3 q4
        obtain ⟨c0, c1, c2, c3, c4, _⟩ := k1
        go_wp2_with fail
        refine (copyThing_any W d t.id t.label t.o t.i t.A t.c t.l (RX.out.next HBW.out)).mono ?_
        rintro e w1 ⟨E, e1, r, rfl, hr, hm, hmp, hb1⟩
        have HR := Lib.hid hr
        have HM := Lib.hid hm
        have MP := Lib.hid hmp
        have HB1 := Lib.hid (bnext HBW.out hb1)
        have sW : wr.heap.size ≤ W.heap.size := HBW.out.size
        have hFn := Lib.hid (hF.out.next HB1.out)
        obtain ⟨v0, f0⟩ := hFn.out.blk.cell (i := k * 5) (by omega)
        obtain ⟨v1, f1⟩ := hFn.out.blk.cell (i := k * 5 + 1) (by omega)
        obtain ⟨v2, f2⟩ := hFn.out.blk.cell (i := k * 5 + 2) (by omega)
        obtain ⟨v3, f3⟩ := hFn.out.blk.cell (i := k * 5 + 3) (by omega)
        obtain ⟨v4, f4⟩ := hFn.out.blk.cell (i := k * 5 + 4) (by omega)
        have x0 := hFn.out.blk.frozen (k * 5)
        have x1 := hFn.out.blk.frozen (k * 5 + 1)
        have x2 := hFn.out.blk.frozen (k * 5 + 2)
        have x3 := hFn.out.blk.frozen (k * 5 + 3)
        have x4 := hFn.out.blk.frozen (k * 5 + 4)
        have k0 : (0 : Int) ≤ (k : Int) := by omega
        have kl : (k : Int) < (ts.length : Int) := by omega
        clear hr hm hmp hb1 c0 c1 c2 c3 c4
        go_wp2
        have FP := Lib.hid (hFn.out.put (t := ⟨t.id, t.label, t.o, t.i, E, e1, r⟩) k (by have := congrArg List.length hD.out; simpa [Nat.min_eq_left hk] using this) hlt (HR.out.low (by have := hsz.out; omega)) MP.out)
        have DN := Lib.hid (show (done ++ [(⟨t.id, t.label, t.o, t.i, E, e1, r⟩ : TA)]).map TA.tv' = (ts.take (k + 1)).map TA.ctv by rw [take_map_next TA.ctv ts k HT.out, List.map_append, hD.out]; simp [TA.tv', TA.ctv, HM.out])
        have BW := Lib.hid (bnext hbel.out HB1.out)
        have SW := Lib.hid (show w.heap.size + 1 ≤ w1.heap.size by have := hsz.out; have := HB1.out.size; omega)
        go_roundw
        case rel => exact ⟨k + 1, _, by omega, by go_num, Lib.hid (((((BW.out.setCell (Nat.le_refl _) _).setCell (Nat.le_refl _) _).setCell (Nat.le_refl _) _).setCell (Nat.le_refl _) _).setCell (Nat.le_refl _) _), Lib.hid (by rw [put5_size]; exact SW.out), DN, FP⟩
        case measure => simp [intOf]; omega
      · obtain rfl : k = ts.length := by omega
        rw [List.take_length] at hD
        go_wp2
        go_ret
        have hl : done.length = ts.length := by have := congrArg List.length hD.out; simpa using this
        exact ⟨some ⟨w.heap.size, 0, none⟩, ts.length, done, by rw [hl]; rfl, fun _ => ⟨w.heap.size, rfl, Nat.le_refl _, by rw [hl]; exact hF.out⟩, fun e => by rw [e] at hl; exact absurd hl.symm h0, by omega, hD.out, hbel.out⟩
end Go.Proofs.Ytciipggccjiaiaa
