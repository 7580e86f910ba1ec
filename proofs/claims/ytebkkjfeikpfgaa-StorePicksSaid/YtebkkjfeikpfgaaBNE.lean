/- Carried over from an earlier seat. -/
import Derived.Test.YtebkkjfeikpfgaaBND
import Derived.Lib.AppendZeros
import Derived.Deep.AppendLies
import Derived.Deep.RegionWith
import Derived.Deep.DeepCutAuto
import Derived.Deep.Cut
namespace Go.Proofs.Ytebkkjfeikpfgaa
set_option maxRecDepth 100000
open Go.RowKit Go.Sort
set_option maxRecDepth 100000

theorem one_box (w : World) (v : Value) (e : TypeId) : (w.alloc (.cells #[v] e)).cell? ⟨w.heap.size, 0, none⟩ = some v := by
  rw [World.cell?_alloc_at _ _ _ _ rfl]; rfl

/-- A block of properties that is known whole. -/
def BlkP (w : World) (g n : Nat) : Prop := ∃ cs : Array Value, w.heap[g]? = some (.cells cs 84 (0, 0)) ∧ cs.size = n * 6
theorem BlkP.lt {w : World} {g n : Nat} (h : BlkP w g n) : g < w.heap.size := by
  obtain ⟨cs, h, _⟩ := h
  exact (Array.getElem?_eq_some_iff.1 h).1
theorem BlkP.cell {w : World} {g n : Nat} (h : BlkP w g n) {i : Nat} (hi : i < n * 6) : ∃ v, w.cell? ⟨g, i, none⟩ = some v := by
  obtain ⟨cs, h, hs⟩ := h
  exact ⟨cs[i], by rw [cell_of_row w g i cs 84 (0, 0) h]; exact Array.getElem?_eq_getElem (by omega)⟩
theorem BlkP.frozen {w : World} {g n : Nat} (h : BlkP w g n) (i : Nat) : w.frozen? ⟨g, i, none⟩ = false := by
  obtain ⟨cs, h, _⟩ := h
  simp [World.frozen?, h]
theorem BlkP.kept {w w' : World} {g n : Nat} (h : BlkP w g n) (hk : w'.heap[g]? = w.heap[g]?) : BlkP w' g n := by
  obtain ⟨cs, h, hs⟩ := h
  exact ⟨cs, hk.trans h, hs⟩
theorem BlkP.below {w w' : World} {B g n : Nat} (h : BlkP w g n) (hb : Below B w w') (hg : g < B) : BlkP w' g n := h.kept (hb.block g hg)
theorem BlkP.set {w : World} {g n : Nat} (h : BlkP w g n) (p : Addr) (u : Value) (hp : p.spot = none) : BlkP (w.setCell p u) g n := by
  by_cases e : g = p.block
  · obtain ⟨cs, h, hs⟩ := h
    refine ⟨cs.setIfInBounds p.off u, ?_, by simpa using hs⟩
    subst e
    obtain ⟨b, o, s⟩ := p
    obtain rfl : s = none := hp
    simp [World.setCell, Array.getElem?_modify, h]
  · exact h.kept (Below.heap_setCell w p u g e)


/-- Six cells written, one behind the other. -/
abbrev put6 (w : World) (g o : Nat) (v0 v1 v2 v3 v4 v5 : Value) : World :=
  (((((w.setCell ⟨g, o, none⟩ v0).setCell ⟨g, o + 1, none⟩ v1).setCell ⟨g, o + 2, none⟩ v2).setCell ⟨g, o + 3, none⟩ v3).setCell ⟨g, o + 4, none⟩ v4).setCell ⟨g, o + 5, none⟩ v5
theorem setP_heap (w : World) (g o : Nat) (u : Value) (cs : Array Value) (h : w.heap[g]? = some (.cells cs 84 (0, 0))) : (w.setCell ⟨g, o, none⟩ u).heap[g]? = some (.cells (cs.setIfInBounds o u) 84 (0, 0)) := by
  simp [World.setCell, Array.getElem?_modify, h]
theorem put6_heap (w : World) (g o : Nat) (v0 v1 v2 v3 v4 v5 : Value) (cs : Array Value) (h : w.heap[g]? = some (.cells cs 84 (0, 0))) :
    (put6 w g o v0 v1 v2 v3 v4 v5).heap[g]? = some (.cells ((((((cs.setIfInBounds o v0).setIfInBounds (o + 1) v1).setIfInBounds (o + 2) v2).setIfInBounds (o + 3) v3).setIfInBounds (o + 4) v4).setIfInBounds (o + 5) v5) 84 (0, 0)) :=
  setP_heap _ _ _ _ _ (setP_heap _ _ _ _ _ (setP_heap _ _ _ _ _ (setP_heap _ _ _ _ _ (setP_heap _ _ _ _ _ (setP_heap _ _ _ _ _ h)))))
theorem put6_size (w : World) (g o : Nat) (v0 v1 v2 v3 v4 v5 : Value) : (put6 w g o v0 v1 v2 v3 v4 v5).heap.size = w.heap.size := by simp [put6, World.setCell]
theorem put6_far (w : World) (g o : Nat) (v0 v1 v2 v3 v4 v5 : Value) (k : Nat) (hk : k ≠ g) : (put6 w g o v0 v1 v2 v3 v4 v5).heap[k]? = w.heap[k]? := by
  unfold put6
  rw [Below.heap_setCell _ _ _ _ hk, Below.heap_setCell _ _ _ _ hk, Below.heap_setCell _ _ _ _ hk, Below.heap_setCell _ _ _ _ hk, Below.heap_setCell _ _ _ _ hk, Below.heap_setCell _ _ _ _ hk]
theorem put6_blk {w : World} {g n : Nat} (h : BlkP w g n) (o : Nat) (v0 v1 v2 v3 v4 v5 : Value) : BlkP (put6 w g o v0 v1 v2 v3 v4 v5) g n :=
  (((((h.set _ _ rfl).set _ _ rfl).set _ _ rfl).set _ _ rfl).set _ _ rfl).set _ _ rfl
theorem put6_at {w : World} {g n : Nat} (h : BlkP w g n) (o : Nat) (ho : o + 6 ≤ n * 6) (v0 v1 v2 v3 v4 v5 : Value) :
    (put6 w g o v0 v1 v2 v3 v4 v5).cell? ⟨g, o, none⟩ = some v0 ∧ (put6 w g o v0 v1 v2 v3 v4 v5).cell? ⟨g, o + 1, none⟩ = some v1 ∧ (put6 w g o v0 v1 v2 v3 v4 v5).cell? ⟨g, o + 2, none⟩ = some v2 ∧ (put6 w g o v0 v1 v2 v3 v4 v5).cell? ⟨g, o + 3, none⟩ = some v3 ∧ (put6 w g o v0 v1 v2 v3 v4 v5).cell? ⟨g, o + 4, none⟩ = some v4 ∧ (put6 w g o v0 v1 v2 v3 v4 v5).cell? ⟨g, o + 5, none⟩ = some v5 := by
  obtain ⟨cs, h, hs⟩ := h
  have hh := put6_heap w g o v0 v1 v2 v3 v4 v5 cs h
  refine ⟨?_, ?_, ?_, ?_, ?_, ?_⟩ <;> (rw [cell_of_row _ _ _ _ _ _ hh]; simp [Array.getElem?_setIfInBounds]; omega)
theorem put6_off {w : World} {g n : Nat} (h : BlkP w g n) (o j : Nat) (hj : j < o ∨ o + 6 ≤ j) (v0 v1 v2 v3 v4 v5 : Value) : (put6 w g o v0 v1 v2 v3 v4 v5).cell? ⟨g, j, none⟩ = w.cell? ⟨g, j, none⟩ := by
  obtain ⟨cs, h, hs⟩ := h
  rw [cell_of_row _ _ _ _ _ _ (put6_heap w g o v0 v1 v2 v3 v4 v5 cs h), cell_of_row _ _ _ _ _ _ h]
  have e0 : ¬ o = j := by omega
  have e1 : ¬ o + 1 = j := by omega
  have e2 : ¬ o + 2 = j := by omega
  have e3 : ¬ o + 3 = j := by omega
  have e4 : ¬ o + 4 = j := by omega
  have e5 : ¬ o + 5 = j := by omega
  simp [e0, e1, e2, e3, e4, e5]
theorem info39 : (Try.prog.info? 84).map (fun i => (i.zero, i.size, i.bytes)) = some (some (.agg #[.string ⟨#[]⟩, .int .i64 0, .int .i64 0, .string ⟨#[]⟩, .slice none 0 0, .slice none 0 0]), 6, 96) := by kernel_rfl
/-- A row of n properties that are nothing. -/
def zrowP (n : Nat) : Array Value := madeCells #[.string ⟨#[]⟩, .int .i64 0, .int .i64 0, .string ⟨#[]⟩, .slice none 0 0, .slice none 0 0] (n * 6)
theorem make39 (n : Nat) (hn : n ≤ 1466015503658) (W : World) : (Instr.makeSlice 40 (.int .i64 (n : Int)) (.int .i64 (n : Int))).run Try.prog W = .ok (.slice (some ⟨W.heap.size, 0, none⟩) n n) (W.alloc (.cells (zrowP n) 84)) := by
  obtain ⟨i0, hi, hz0, hz1, hz2⟩ := info_parts info39
  have := run_make (P := Try.prog) W 40 84 i0 _ Try.underlying40 hi hz0 .i64 .i64 (n : Int) (n : Int) (by omega) (Int.le_refl _) (by rw [hz2]; omega) (by omega)
  rw [this, hz1]; rfl
theorem blkP_made (w : World) (n : Nat) : BlkP (w.alloc (.cells (zrowP n) 84)) w.heap.size n := ⟨zrowP n, heap_alloc_new w _, size_madeCells _ _⟩
/-- So far as a row of copies is filled. -/
structure FillP (w : World) (g n d : Nat) (done : List PA) : Prop where
  blk : BlkP w g n
  el : ∀ j p, done[j]? = some p → cells6 w g (j * 6) p ∧ Rd w (g + 1) w.heap.size d p.x.t p.x.A p.x.c p.x.A' p.x.c'
theorem FillP.next {w w' : World} {g n d : Nat} {done : List PA} (h : FillP w g n d done) (hb : Below w.heap.size w w') : FillP w' g n d done :=
  ⟨h.blk.below hb h.blk.lt, fun j p hj => by
    obtain ⟨q, rd⟩ := h.el j p hj
    exact ⟨q.next hb h.blk.lt, Rd.imp (Kept.of_below hb (Nat.le_refl _)) (Nat.le_refl _) hb.size (Nat.le_refl _) rd⟩⟩
theorem FillP.put {w : World} {g n d : Nat} {done : List PA} (h : FillP w g n d done) (k : Nat) (hk : done.length = k) (hn : k < n) {p : PA} (rd : Rd w (g + 1) w.heap.size d p.x.t p.x.A p.x.c p.x.A' p.x.c') :
    FillP (put6 w g (k * 6) (.string p.key) (.int .i64 p.x.t.k) (.int .i64 p.x.t.n) (.string p.x.t.s) (.slice p.x.A p.x.t.l.length p.x.c) (.slice p.x.A' p.x.t.m.length p.x.c')) g n d (done ++ [p]) := by
  have hkept : Kept (g + 1) w.heap.size w (put6 w g (k * 6) (.string p.key) (.int .i64 p.x.t.k) (.int .i64 p.x.t.n) (.string p.x.t.s) (.slice p.x.A p.x.t.l.length p.x.c) (.slice p.x.A' p.x.t.m.length p.x.c')) := fun i h1 _ => put6_far _ _ _ _ _ _ _ _ _ i (by omega)
  refine ⟨put6_blk h.blk _ _ _ _ _ _ _, fun j u hj => ?_⟩
  rw [put6_size]
  by_cases e : j = k
  · subst e
    rw [List.getElem?_append_right (by omega), hk, Nat.sub_self] at hj
    simp at hj
    subst hj
    obtain ⟨a0, a1, a2, a3, a4, a5⟩ := put6_at h.blk (j * 6) (by omega) (.string p.key) (.int .i64 p.x.t.k) (.int .i64 p.x.t.n) (.string p.x.t.s) (.slice p.x.A p.x.t.l.length p.x.c) (.slice p.x.A' p.x.t.m.length p.x.c')
    exact ⟨⟨a0, a1, a2, a3, a4, a5⟩, rd.keep hkept⟩
  · have hjd : j < done.length := by
      rcases Nat.lt_or_ge j (done ++ [p]).length with h1 | h1
      · simp at h1; omega
      · rw [List.getElem?_eq_none h1] at hj; cases hj
    rw [List.getElem?_append_left hjd] at hj
    obtain ⟨q, r1⟩ := h.el j u hj
    have ho := fun i (hi : i < 6) => put6_off h.blk (k * 6) (j * 6 + i) (by omega) (.string p.key) (.int .i64 p.x.t.k) (.int .i64 p.x.t.n) (.string p.x.t.s) (.slice p.x.A p.x.t.l.length p.x.c) (.slice p.x.A' p.x.t.m.length p.x.c')
    exact ⟨⟨(ho 0 (by omega)).trans q.k, (ho 1 (by omega)).trans q.c0, (ho 2 (by omega)).trans q.c1, (ho 3 (by omega)).trans q.c2, (ho 4 (by omega)).trans q.c3, (ho 5 (by omega)).trans q.c4⟩, r1.keep hkept⟩
theorem FillP.row {w : World} {g n d : Nat} {l : List PA} (h : FillP w g n d l) (hl : l.length = n) (hn : n ≤ 1466015503658) {lo : Nat} (hlo : lo ≤ g) : PRow w lo d (some ⟨g, 0, none⟩) n l :=
  ⟨by omega, by unfold maxLen; omega, by omega, (fun e => by cases e), fun _ => ⟨g, 0, rfl, hlo, h.blk.lt, fun j p hj => by rw [Nat.zero_add]; exact (h.el j p hj).1⟩, fun p hp => by
    obtain ⟨j, hj⟩ := List.mem_iff_getElem?.1 hp
    exact Rd.more (h.el j p hj).2 (by omega) (Nat.le_refl _) (Nat.le_refl _)⟩
def PA.kv (p : PA) : ByteArray × V := (p.key, p.x.t)
def PA.ckv (p : PA) : ByteArray × V := (p.key, copyV 12 p.x.t)
/-- A row of properties whose memory is its owner's. -/
def MineP (w : World) (A : Option Addr) (n : Nat) : Prop := 0 < n → ∃ g, A = some ⟨g, 0, none⟩ ∧ BlkP w g n
theorem MineP.keep {a b : World} {lo d c : Nat} {A : Option Addr} {l : List PA} (h : MineP a A l.length) (hr : PRow a lo d A c l) (hk : Kept lo a.heap.size a b) : MineP b A l.length := fun h0 => by
  obtain ⟨g, e, hb⟩ := h h0
  obtain ⟨b', off, e', h1, h2, _⟩ := hr.at_ h0
  rw [e] at e'
  injection e' with e'
  injection e' with e1
  subst e1
  exact ⟨g, e, hb.kept (hk g h1 h2)⟩
/-- A row of copies. -/
def CRow (w : World) (l : List PA) (e : Ending) (w' : World) : Prop := ∃ A c r, e = .returned (.slice A r.length c) ∧ PRow w' w.heap.size 13 A c r ∧ r.map PA.kv = l.map PA.ckv ∧ MineP w' A r.length ∧ Below w.heap.size w w'
end Go.Proofs.Ytebkkjfeikpfgaa
namespace Go.Proofs.Ytebkkjfeikpfgaa
set_option maxRecDepth 100000
open Go.RowKit Go.Sort
set_option maxRecDepth 100000

theorem box39 (w : World) (p : PA) (W : World) (hW : w.alloc (.cells #[.string p.key, .int .i64 p.x.t.k, .int .i64 p.x.t.n, .string p.x.t.s, .slice p.x.A p.x.t.l.length p.x.c, .slice p.x.A' p.x.t.m.length p.x.c'] 84) = W) : cells6 W w.heap.size 0 p ∧ Below w.heap.size w W ∧ W.heap.size = w.heap.size + 1 := by
  subst hW
  refine ⟨?_, below_new _ _, by simp⟩
  constructor
  all_goals (rw [World.cell?_alloc_at _ _ _ _ rfl]; rfl)

set_option maxHeartbeats 3200000 in
theorem copyProps_any (w : World) (d : Nat) (A : Option Addr) (c : Nat) (l : List PA) (h : PRow w 0 d A c l) : Calls Try.prog 78 #[.slice A l.length c] w (CRow w l) := by
  have H := Lib.hid h
  have hbig := h.big
  have hmk := make39 l.length hbig
  clear h
  by_cases h0 : l.length = 0
  · have e0 : ((l.length : Int) == 0) = true := by rw [h0]; rfl
    obtain rfl : l = [] := List.eq_nil_of_length_eq_zero h0
    clear hmk
    go_enter Try.func78, Try.ntmps78
    go_wp2
    go_ret
    exact ⟨none, 0, [], rfl, prow_nil _ _ _, rfl, fun h => absurd h (by simp), Below.refl _ _⟩
  · have e0 : ((l.length : Int) == 0) = false := beq_eq_false_iff_ne.2 (by omega)
    go_enter Try.func78, Try.ntmps78
    go_wp2
    have hb0 := blkP_made w l.length
    generalize hX : World.alloc w _ = X at hb0
    have hBX : Below w.heap.size w X := by rw [← hX]; exact below_new _ _
    have hS : X.heap.size = w.heap.size + 1 := by rw [← hX]; simp
    have F0 := Lib.hid (show FillP X w.heap.size l.length 13 [] from ⟨hb0, fun j t h => by simp at h⟩)
    have BX := Lib.hid hBX
    have SX := Lib.hid hS
    clear hb0 hBX hS hX
    go_loopw [14] (fun i wr => ∃ (k : Nat) (done : List PA), k ≤ l.length ∧ i = .int .i64 k ∧ Hid (Below w.heap.size w wr) ∧ Hid (w.heap.size + 1 ≤ wr.heap.size) ∧ Hid (done.map PA.kv = (l.take k).map PA.ckv) ∧ Hid (FillP wr w.heap.size l.length 13 done)) (fun i _ => l.length - (intOf i).toNat)
    case atStart => exact ⟨0, [], by omega, rfl, BX, Lib.hid (by rw [SX.out]; omega), Lib.hid rfl, F0⟩
    case round =>
      obtain ⟨k, done, hk, rfl, hbel, hsz, hD, hF⟩ := hrel
      by_cases hlt : k < l.length
      · obtain ⟨b, off, p, rfl, hb, hp, q6, rx⟩ := (H.out.next hbel.out).elem hlt
        obtain ⟨q0, q1, q2, q3, q4, q5⟩ := q6
        have RX := Lib.hid rx
        have HP := Lib.hid hp
        clear rx hp
        go_upto_region 7 with fail
        generalize hW : World.alloc wr _ = W
        obtain ⟨⟨z0, z1, z2, z3, z4, z5⟩, hbW, hsW⟩ := box39 wr p W hW
        have HBW := Lib.hid hbW
        have CC := Lib.hid (fun (Y : World) (hY : Below W.heap.size W Y) => copy_any Y d p.x.t _ _ _ _ ((RX.out.next hbW).next hY))
        have hFW := Lib.hid (hF.out.next hbW)
        have hgW : wr.heap.size < W.heap.size := by omega
        have hgw : w.heap.size < wr.heap.size := by have := hsz.out; omega
        generalize hg5 : wr.heap.size = g5 at z0 z1 z2 z3 z4 z5 hgW hgw
        have HG5 := Lib.hid hg5
        have hs5 : W.heap.size = g5 + 1 := by rw [← hg5]; exact hsW
        clear hs5
        clear hW hbW hg5 hsW q0 q1 q2 q3 q4 q5
        have k0 : (0 : Int) ≤ (k : Int) := by omega
        have k1 : (k : Int) < (l.length : Int) := by omega
        go_region_with (go_at_call 83; (with_reducible refine (CC.out _ ?_).mono ?_); (focus exact (Below.refl _ _).drew); rintro e w1 ⟨E, e1, E', e2, rfl, rd, _, _, hb0⟩; have hb1 : Below W.heap.size W w1 := (Below.refl _ _).drew.trans hb0; have y0 := cell_below hb1 z0 hgW; have hbk := (hFW.out.blk).below hb1 hFW.out.blk.lt; obtain ⟨v0, f0⟩ := hbk.cell (i := k * 6) (by omega); obtain ⟨v1, f1⟩ := hbk.cell (i := k * 6 + 1) (by omega); obtain ⟨v2, f2⟩ := hbk.cell (i := k * 6 + 2) (by omega); obtain ⟨v3, f3⟩ := hbk.cell (i := k * 6 + 3) (by omega); obtain ⟨v4, f4⟩ := hbk.cell (i := k * 6 + 4) (by omega); obtain ⟨v5, f5⟩ := hbk.cell (i := k * 6 + 5) (by omega); have x0 := hbk.frozen (k * 6); have x1 := hbk.frozen (k * 6 + 1); have x2 := hbk.frozen (k * 6 + 2); have x3 := hbk.frozen (k * 6 + 3); have x4 := hbk.frozen (k * 6 + 4); have x5 := hbk.frozen (k * 6 + 5); have RD := Lib.hid rd; have HB1 := Lib.hid hb1; clear rd hb1 hb0 hbk)
        all_goals
          go_wp2
          have FP := Lib.hid ((hFW.out.next HB1.out).put (p := ⟨p.key, ⟨copyV 12 p.x.t, E, e1, E', e2⟩⟩) k (by have := congrArg List.length hD.out; simpa [Nat.min_eq_left hk] using this) hlt (RD.out.more (lo' := w.heap.size + 1) (by show w.heap.size + 1 ≤ W.heap.size; omega) (Nat.le_refl _) (Nat.le_refl _)))
          have DN := Lib.hid (show (done ++ [(⟨p.key, ⟨copyV 12 p.x.t, E, e1, E', e2⟩⟩ : PA)]).map PA.kv = (l.take (k + 1)).map PA.ckv by rw [take_map_next PA.ckv l k HP.out, List.map_append, hD.out]; rfl)
          have BW := Lib.hid (show Below w.heap.size w w1 from bnext hbel.out (bnext HBW.out HB1.out))
          have SW := Lib.hid (show w.heap.size + 1 ≤ w1.heap.size by have := hsz.out; have := HBW.out.size; have := HB1.out.size; omega)
          go_roundw
          case rel => exact ⟨k + 1, _, by omega, by go_num, Lib.hid ((((((BW.out.setCell (Nat.le_refl _) _).setCell (Nat.le_refl _) _).setCell (Nat.le_refl _) _).setCell (Nat.le_refl _) _).setCell (Nat.le_refl _) _).setCell (Nat.le_refl _) _), Lib.hid (by rw [put6_size]; exact SW.out), DN, FP⟩
          case measure => simp [intOf]; omega
      · obtain rfl : k = l.length := by omega
        rw [List.take_length] at hD
        go_wp2
        go_ret
        have hl : done.length = l.length := by have := congrArg List.length hD.out; simpa using this
        exact ⟨some ⟨w.heap.size, 0, none⟩, l.length, done, by rw [hl]; rfl, (hF.out.row hl hbig (Nat.le_refl _)), hD.out, fun _ => ⟨w.heap.size, rfl, by rw [hl]; exact hF.out.blk⟩, hbel.out⟩
end Go.Proofs.Ytebkkjfeikpfgaa

