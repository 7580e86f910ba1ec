/- Carried over from an earlier seat. -/
import Derived.Test.YtebkkjfeikpfgaaBNO
import Derived.Test.YtebkkjfeikpfgaaBXB
namespace Go.Proofs.Ytebkkjfeikpfgaa
set_option maxRecDepth 100000
open Go.RowKit Go.Sort
set_option maxRecDepth 100000

/-- A thing as it is, without where it lies. -/
structure TV where
  id : Int
  label : ByteArray
  o : Int
  i : Int
  l : List (ByteArray × V)
def TA.tv' (t : TA) : TV := ⟨t.id, t.label, t.o, t.i, t.l.map PA.kv⟩
def TA.ctv (t : TA) : TV := ⟨t.id, t.label, t.o, t.i, t.l.map PA.ckv⟩
theorem info34 : (Try.prog.info? 42).map (fun i => (i.zero, i.size, i.bytes)) = some (some (.agg #[.int .i64 0, .string ⟨#[]⟩, .int .i64 0, .int .i64 0, .slice none 0 0]), 5, 64) := by kernel_rfl
def zrowT (n : Nat) : Array Value := madeCells #[.int .i64 0, .string ⟨#[]⟩, .int .i64 0, .int .i64 0, .slice none 0 0] (n * 5)
theorem make34 (n : Nat) (hn : n ≤ 2199023255488) (W : World) : (Instr.makeSlice 22 (.int .i64 (n : Int)) (.int .i64 (n : Int))).run Try.prog W = .ok (.slice (some ⟨W.heap.size, 0, none⟩) n n) (W.alloc (.cells (zrowT n) 42)) := by
  obtain ⟨i0, hi, hz0, hz1, hz2⟩ := info_parts info34
  have := run_make (P := Try.prog) W 22 42 i0 _ Try.underlying22 hi hz0 .i64 .i64 (n : Int) (n : Int) (by omega) (Int.le_refl _) (by rw [hz2]; omega) (by omega)
  rw [this, hz1]; rfl
theorem blkT_made (w : World) (n : Nat) : BlkT (w.alloc (.cells (zrowT n) 42)) w.heap.size n := ⟨zrowT n, heap_alloc_new w _, size_madeCells _ _⟩
/-- A row of things that is owned, all of whose memory lies from lo on. -/
structure FillT (w : World) (g n : Nat) (done : List TA) : Prop where
  blk : BlkT w g n
  el : ∀ j t, done[j]? = some t → cellsT w g (j * 5) t ∧ PRow w (g + 1) 13 t.A t.c t.l ∧ MineP w t.A t.l.length
theorem FillT.next {w w' : World} {g n : Nat} {done : List TA} (h : FillT w g n done) (hb : Below w.heap.size w w') : FillT w' g n done :=
  ⟨h.blk.below hb h.blk.lt, fun j t hj => by
    obtain ⟨q, r, m⟩ := h.el j t hj
    exact ⟨q.next hb h.blk.lt, r.next hb, m.keep r (Kept.of_below hb (Nat.le_refl _))⟩⟩
theorem put5T_off {w : World} {g n : Nat} (h : BlkT w g n) (o j : Nat) (hj : j < o ∨ o + 5 ≤ j) (v0 v1 v2 v3 v4 : Value) : (put5 w g o v0 v1 v2 v3 v4).cell? ⟨g, j, none⟩ = w.cell? ⟨g, j, none⟩ := by
  obtain ⟨cs, h, hs⟩ := h
  rw [cell_of_row _ _ _ _ _ _ (put5T_heap w g o v0 v1 v2 v3 v4 cs h), cell_of_row _ _ _ _ _ _ h]
  have e0 : ¬ o = j := by omega
  have e1 : ¬ o + 1 = j := by omega
  have e2 : ¬ o + 2 = j := by omega
  have e3 : ¬ o + 3 = j := by omega
  have e4 : ¬ o + 4 = j := by omega
  simp [e0, e1, e2, e3, e4]
theorem FillT.put {w : World} {g n : Nat} {done : List TA} (h : FillT w g n done) (k : Nat) (hk : done.length = k) (hn : k < n) {t : TA} (r : PRow w (g + 1) 13 t.A t.c t.l) (m : MineP w t.A t.l.length) :
    FillT (put5 w g (k * 5) (.int .i64 t.id) (.string t.label) (.int .i64 t.o) (.int .i64 t.i) (.slice t.A t.l.length t.c)) g n (done ++ [t]) := by
  have hkept : Kept (g + 1) w.heap.size w (put5 w g (k * 5) (.int .i64 t.id) (.string t.label) (.int .i64 t.o) (.int .i64 t.i) (.slice t.A t.l.length t.c)) := fun i h1 _ => put5_far _ _ _ _ _ _ _ _ i (by omega)
  have hsz : w.heap.size ≤ (put5 w g (k * 5) (.int .i64 t.id) (.string t.label) (.int .i64 t.o) (.int .i64 t.i) (.slice t.A t.l.length t.c)).heap.size := Nat.le_of_eq (put5_size _ _ _ _ _ _ _ _).symm
  refine ⟨put5T_blk h.blk _ _ _ _ _ _, fun j u hj => ?_⟩
  by_cases e : j = k
  · subst e
    rw [List.getElem?_append_right (by omega), hk, Nat.sub_self] at hj
    simp at hj
    subst hj
    obtain ⟨a0, a1, a2, a3, a4⟩ := put5T_at h.blk (j * 5) (by omega) (.int .i64 t.id) (.string t.label) (.int .i64 t.o) (.int .i64 t.i) (.slice t.A t.l.length t.c)
    exact ⟨⟨a0, a1, a2, a3, a4⟩, r.imp hkept (Nat.le_refl _) hsz, m.keep r hkept⟩
  · have hjd : j < done.length := by
      rcases Nat.lt_or_ge j (done ++ [t]).length with h1 | h1
      · simp at h1; omega
      · rw [List.getElem?_eq_none h1] at hj; cases hj
    rw [List.getElem?_append_left hjd] at hj
    obtain ⟨q, r1, m1⟩ := h.el j u hj
    have ho := fun i (hi : i < 5) => put5T_off h.blk (k * 5) (j * 5 + i) (by omega) (.int .i64 t.id) (.string t.label) (.int .i64 t.o) (.int .i64 t.i) (.slice t.A t.l.length t.c)
    exact ⟨⟨(ho 0 (by omega)).trans q.c0, (ho 1 (by omega)).trans q.c1, (ho 2 (by omega)).trans q.c2, (ho 3 (by omega)).trans q.c3, (ho 4 (by omega)).trans q.c4⟩, r1.imp hkept (Nat.le_refl _) hsz, m1.keep r1 hkept⟩
/-- What copyThings gives. -/
def CThings (w : World) (ts : List TA) (e : Ending) (w' : World) : Prop := ∃ A c r, e = .returned (.slice A r.length c) ∧ (r ≠ [] → ∃ g, A = some ⟨g, 0, none⟩ ∧ w.heap.size ≤ g ∧ FillT w' g r.length r) ∧ (r = [] → A = none) ∧ c = r.length ∧ r.map TA.tv' = ts.map TA.ctv ∧ Below w.heap.size w w'

set_option maxHeartbeats 3200000 in
theorem copyThings_any (w : World) (d : Nat) (A : Option Addr) (c : Nat) (ts : List TA) (h : TRow w d A c ts) : Calls Try.prog 48 #[.slice A ts.length c] w (CThings w ts) := by
  have H := Lib.hid h
  have hbig := h.big
  have hmk := make34 ts.length hbig
  clear h
  by_cases h0 : ts.length = 0
  · have e0 : ((ts.length : Int) == 0) = true := by rw [h0]; rfl
    obtain rfl : ts = [] := List.eq_nil_of_length_eq_zero h0
    clear hmk
    go_enter Try.func48, Try.ntmps48
    go_wp2
    go_ret
    exact ⟨none, 0, [], rfl, fun h => absurd rfl h, fun _ => rfl, rfl, rfl, Below.refl _ _⟩
  · have e0 : ((ts.length : Int) == 0) = false := beq_eq_false_iff_ne.2 (by omega)
    go_enter Try.func48, Try.ntmps48
    go_wp2
    have hb0 := blkT_made w ts.length
    generalize hX : World.alloc w _ = X at hb0
    have hBX : Below w.heap.size w X := by rw [← hX]; exact below_new _ _
    have hS : X.heap.size = w.heap.size + 1 := by rw [← hX]; simp
    have F0 := Lib.hid (show FillT X w.heap.size ts.length [] from ⟨hb0, fun j t h => by simp at h⟩)
    have BX := Lib.hid hBX
    have SX := Lib.hid hS
    clear hb0 hBX hS hX
    go_loopw [14] (fun i wr => ∃ (k : Nat) (done : List TA), k ≤ ts.length ∧ i = .int .i64 k ∧ Hid (Below w.heap.size w wr) ∧ Hid (w.heap.size + 1 ≤ wr.heap.size) ∧ Hid (done.map TA.tv' = (ts.take k).map TA.ctv) ∧ Hid (FillT wr w.heap.size ts.length done)) (fun i _ => ts.length - (intOf i).toNat)
    case atStart => exact ⟨0, [], by omega, rfl, BX, Lib.hid (by rw [SX.out]; omega), Lib.hid rfl, F0⟩
    case round =>
      obtain ⟨k, done, hk, rfl, hbel, hsz, hD, hF⟩ := hrel
      by_cases hlt : k < ts.length
      · obtain ⟨b, off, t, rfl, hb, ht, q5, rx⟩ := (H.out.next hbel.out).elem hlt
        obtain ⟨q0, q1, q2, q3, q4⟩ := q5
        have RX := Lib.hid rx
        have HT := Lib.hid ht
        clear rx ht
        go_upto_region 7 with fail
        have k1 := CellT.new wr (.int .i64 t.id) (.string t.label) (.int .i64 t.o) (.int .i64 t.i) (.slice t.A t.l.length t.c)
        generalize hW : World.alloc wr _ = W at k1
        have HBW : Hid (Below wr.heap.size wr W) := Lib.hid (by rw [← hW]; exact below_new _ _)
        clear hW q0 q1 q2 q3 q4
        obtain ⟨c0, c1, c2, c3, c4, _⟩ := k1
        go_wp2_with fail
        refine (copyThing_any W d t.id t.label t.o t.i t.A t.c t.l (RX.out.next HBW.out)).mono ?_
        rintro e w1 ⟨E, e1, r, rfl, hr, hm, hmp, hb1⟩
        have HR := Lib.hid hr
        have HM := Lib.hid hm
        have MP := Lib.hid hmp
        have HB1 := Lib.hid (bnext HBW.out hb1)
        have sW : wr.heap.size ≤ W.heap.size := HBW.out.size
        have hFn := Lib.hid (hF.out.next HB1.out)
        obtain ⟨v0, f0⟩ := hFn.out.blk.cell (i := k * 5) (by omega)
        obtain ⟨v1, f1⟩ := hFn.out.blk.cell (i := k * 5 + 1) (by omega)
        obtain ⟨v2, f2⟩ := hFn.out.blk.cell (i := k * 5 + 2) (by omega)
        obtain ⟨v3, f3⟩ := hFn.out.blk.cell (i := k * 5 + 3) (by omega)
        obtain ⟨v4, f4⟩ := hFn.out.blk.cell (i := k * 5 + 4) (by omega)
        have x0 := hFn.out.blk.frozen (k * 5)
        have x1 := hFn.out.blk.frozen (k * 5 + 1)
        have x2 := hFn.out.blk.frozen (k * 5 + 2)
        have x3 := hFn.out.blk.frozen (k * 5 + 3)
        have x4 := hFn.out.blk.frozen (k * 5 + 4)
        have k0 : (0 : Int) ≤ (k : Int) := by omega
        have kl : (k : Int) < (ts.length : Int) := by omega
        clear hr hm hmp hb1 c0 c1 c2 c3 c4
        go_wp2
        have FP := Lib.hid (hFn.out.put (t := ⟨t.id, t.label, t.o, t.i, E, e1, r⟩) k (by have := congrArg List.length hD.out; simpa [Nat.min_eq_left hk] using this) hlt (HR.out.low (by have := hsz.out; omega)) MP.out)
        have DN := Lib.hid (show (done ++ [(⟨t.id, t.label, t.o, t.i, E, e1, r⟩ : TA)]).map TA.tv' = (ts.take (k + 1)).map TA.ctv by rw [take_map_next TA.ctv ts k HT.out, List.map_append, hD.out]; simp [TA.tv', TA.ctv, HM.out])
        have BW := Lib.hid (bnext hbel.out HB1.out)
        have SW := Lib.hid (show w.heap.size + 1 ≤ w1.heap.size by have := hsz.out; have := HB1.out.size; omega)
        go_roundw
        case rel => exact ⟨k + 1, _, by omega, by go_num, Lib.hid (((((BW.out.setCell (Nat.le_refl _) _).setCell (Nat.le_refl _) _).setCell (Nat.le_refl _) _).setCell (Nat.le_refl _) _).setCell (Nat.le_refl _) _), Lib.hid (by rw [put5_size]; exact SW.out), DN, FP⟩
        case measure => simp [intOf]; omega
      · obtain rfl : k = ts.length := by omega
        rw [List.take_length] at hD
        go_wp2
        go_ret
        have hl : done.length = ts.length := by have := congrArg List.length hD.out; simpa using this
        exact ⟨some ⟨w.heap.size, 0, none⟩, ts.length, done, by rw [hl]; rfl, fun _ => ⟨w.heap.size, rfl, Nat.le_refl _, by rw [hl]; exact hF.out⟩, fun e => by rw [e] at hl; exact absurd hl.symm h0, by omega, hD.out, hbel.out⟩
end Go.Proofs.Ytebkkjfeikpfgaa
namespace Go.Proofs.Ytebkkjfeikpfgaa
set_option maxRecDepth 100000
open Go.RowKit Go.Sort
set_option maxRecDepth 100000

def zeroTV : TV := ⟨0, ⟨#[]⟩, 0, 0, []⟩
def idB (id : Int) (t : TA) : Bool := t.id == id
set_option maxHeartbeats 1600000 in
theorem eq42 (w : World) (t : TA) (g : Nat) (id : Int) (hg : g < w.heap.size) (hc : w.cell? ⟨g, 0, none⟩ = some (.int .i64 id)) : Calls Try.prog 70 #[t.v, .pointer (some ⟨g, 0, none⟩)] w fun e w' => e = .returned (.bool (idB id t)) ∧ Below w.heap.size w w' := by
  have hc1 := cell_below (below_new w (.cells #[.int .i64 t.id, .string t.label, .int .i64 t.o, .int .i64 t.i, .slice t.A t.l.length t.c] 42)) hc hg
  clear hc
  go_enter Try.func70, Try.ntmps70
  go_wp2
  go_ret
  exact ⟨by rfl, below_new _ _⟩

set_option maxHeartbeats 1600000 in
theorem indexT42 (w : World) (d : Nat) (A : Option Addr) (c : Nat) (l : List TA) (h : TRow w d A c l) (g : Nat) (q : TA → Bool) (HC : Hid (∀ (W : World) (p : TA), Below w.heap.size w W → p ∈ l → PRow W 0 d p.A p.c p.l → Calls Try.prog 70 #[p.v, .pointer (some ⟨g, 0, none⟩)] W fun e w' => e = .returned (.bool (q p)) ∧ Below W.heap.size W w')) :
    Calls Try.prog 69 #[.slice A l.length c, .func (.func 70) #[] #[.pointer (some ⟨g, 0, none⟩)]] w fun e w' => e = .returned (.int .i64 (idxG q l 0)) ∧ Below w.heap.size w w' := by
  have H1 := Lib.hid h
  have b1 := h.big
  clear h
  go_enter Try.func69, Try.ntmps69
  go_wp2
  go_loopw [8] (fun i wr => ∃ k : Nat, k ≤ l.length ∧ i = .int .i64 k ∧ Hid (Below w.heap.size w wr) ∧ Hid (idxG q (l.drop k) k = idxG q l 0)) (fun i _ => l.length - (intOf i).toNat)
  case atStart => exact ⟨0, by omega, rfl, Lib.hid (Below.refl _ _), Lib.hid (by simp)⟩
  case round =>
    obtain ⟨k, hk, rfl, hbel, hr⟩ := hrel
    by_cases hlt : k < l.length
    · obtain ⟨b, off, x, rfl, hb, hx, q6, rx⟩ := (H1.out.next hbel.out).elem hlt
      obtain ⟨q0, q1, q2, q3, q4⟩ := q6
      have Y := Lib.hid (idxG_yes q l k hx)
      have N := Lib.hid (idxG_no q l k hx)
      have XM := Lib.hid (List.mem_of_getElem? hx)
      have RX := Lib.hid rx
      clear rx hx
      go_wp2_with fail
      refine (HC.out _ x hbel.out XM.out RX.out).mono ?_
      rintro e w1 ⟨rfl, hb1⟩
      have HB := Lib.hid (bnext hbel.out hb1)
      clear hb1
      cases hp : q x
      · go_wp2
        go_roundw
        case rel => exact ⟨k + 1, by omega, by go_num, HB, Lib.hid (by rw [← hr.out, N.out hp])⟩
        case measure => simp [intOf]; omega
      · go_wp2
        go_ret
        exact ⟨by rw [← hr.out, Y.out hp]; rfl, HB.out⟩
    · have OUT := Lib.hid (idxG_out q l k k (by omega))
      go_wp2
      go_ret
      exact ⟨by rw [← hr.out, OUT.out]; rfl, hbel.out⟩

theorem boxesA (w : World) (id : Int) (u0 u1 u2 u3 u4 : Value) (W : World) (hW : (w.alloc (.cells #[.int .i64 id] 3)).alloc (.cells #[u0, u1, u2, u3, u4] 42) = W) :
    W.cell? ⟨w.heap.size, 0, none⟩ = some (.int .i64 id) ∧ CellT W (w.heap.size + 1) u0 u1 u2 u3 u4 ∧ Below w.heap.size w W ∧ W.heap.size = w.heap.size + 2 := by
  subst hW
  refine ⟨cell_below (below_new _ _) (one_box w (.int .i64 id) 3) (by simp), ?_, below_new2 _ _ _, by simp⟩
  have := CellT.new (w.alloc (.cells #[.int .i64 id] 3)) u0 u1 u2 u3 u4
  rw [size_alloc] at this
  exact this
theorem idxG_at {α : Type} (p : α → Bool) : ∀ (l : List α) (k : Nat), (idxG p l k = -1 ∧ l.find? p = none) ∨ ∃ (i : Nat) (x : α), idxG p l k = (k : Int) + i ∧ l[i]? = some x ∧ l.find? p = some x ∧ p x = true
  | [], k => .inl ⟨rfl, rfl⟩
  | y :: r, k => by
    by_cases h : p y = true
    · exact .inr ⟨0, y, by simp [idxG, h], rfl, by simp [h], h⟩
    · have h' : p y = false := by simpa using h
      rcases idxG_at p r (k + 1) with ⟨e, f⟩ | ⟨i, x, e, hx, f, hp⟩
      · exact .inl ⟨by simp [idxG, h', e], by rw [List.find?_cons_of_neg h]; exact f⟩
      · exact .inr ⟨i + 1, x, by simp only [idxG, h']; rw [if_neg (by simp), e]; omega, hx, by rw [List.find?_cons_of_neg h]; exact f, hp⟩
/-- What At comes to. -/
def atV (ts : List TA) (id : Int) : TV × Bool := match ts.find? (idB id) with
  | some t => (t.ctv, true)
  | none => (zeroTV, false)
/-- A thing that was made. -/
structure NewT (w w' : World) (q : TA) : Prop where
  row : PRow w' w.heap.size 13 q.A q.c q.l
  mine : MineP w' q.A q.l.length
  bel : Below w.heap.size w w'
def AtPost (w : World) (r : TV × Bool) (e : Ending) (w' : World) : Prop := ∃ q : TA, e = .returned (.tuple #[q.v, .bool r.2]) ∧ q.tv' = r.1 ∧ NewT w w' q
set_option maxHeartbeats 3200000 in
theorem at_any (w : World) (d : Nat) (A : Option Addr) (c : Nat) (ts : List TA) (h : TRow w d A c ts) (id : Int) : Calls Try.prog 54 #[.slice A ts.length c, .int .i64 id] w (AtPost w (atV ts id)) := by
  have IX := Lib.hid (fun W (hb : Below w.heap.size w W) g (hg : g < W.heap.size) (hc : W.cell? ⟨g, 0, none⟩ = some (.int .i64 id)) => indexT42 W d A c ts (h.next hb) g (idB id) (Lib.hid (fun W' t hb' _ _ => eq42 W' t g id (Nat.lt_of_lt_of_le hg hb'.size) (cell_below hb' hc hg))))
  have H := Lib.hid h
  have hbig := h.big
  have HF := Lib.hid (idxG_at (idB id) ts 0)
  clear h
  go_enter Try.func54, Try.ntmps54
  go_upto_region 1 with fail
  generalize hW : World.alloc (World.alloc _ _) _ = W
  obtain ⟨kk, k2, hb, hs⟩ := boxesA _ _ _ _ _ _ _ _ hW
  have KK := Lib.hid kk
  have K2 := Lib.hid k2
  have HB := Lib.hid hb
  have hgk : w.heap.size < W.heap.size := by omega
  have hg2 : w.heap.size + 1 < W.heap.size := by omega
  clear hW kk k2 hb hs
  go_wp2_with fail
  refine (IX.out W HB.out w.heap.size hgk KK.out).mono ?_
  rintro e w1 ⟨rfl, hb1⟩
  have B1 := Lib.hid (bnext HB.out hb1)
  have K2n := Lib.hid (K2.out.next hb1)
  have hs1 := hb1.size
  clear hb1 K2
  have hf := HF.out
  rcases hf with ⟨e1, f1⟩ | ⟨i, t, e1, ht, f1, hp⟩
  · rw [e1]
    have HV : Hid (atV ts id = (zeroTV, false)) := Lib.hid (by unfold atV; rw [f1])
    have HR := Lib.hid (retT_box K2n.out.blk (.int .i64 0) (.string ⟨#[]⟩) (.int .i64 0) (.int .i64 0) (.slice none 0 0))
    obtain ⟨y0, y1, y2, y3, y4, z0, z1, z2, z3, z4, _⟩ := K2n.out
    clear e1 f1
    go_wp2
    obtain ⟨F, hF, ⟨r0', r1', r2', r3', r4', _⟩, hk, hsz, hbel⟩ := HR.out
    rw [← hF]
    clear hF
    exact bodyPost_ret (v := .tuple #[tv 0 ⟨#[]⟩ 0 0 none 0 0, .bool false]) (by simp [results, Try.results54, go_sem, r0', r1', r2', r3', r4']) rfl ⟨⟨0, ⟨#[]⟩, 0, 0, none, 0, []⟩, by rw [HV.out]; rfl, by rw [HV.out]; rfl, prow_nil _ _ _, fun h => absurd h (by simp), hbel _ _ (by omega) B1.out⟩
  · rw [e1]
    have hil := (List.getElem?_eq_some_iff.1 ht).1
    have HV : Hid (atV ts id = (t.ctv, true)) := Lib.hid (by unfold atV; rw [f1])
    have i0 : (0 : Int) ≤ (i : Int) := by omega
    have i1 : (i : Int) < (ts.length : Int) := by omega
    have hzi : ((0 : Nat) : Int) + (i : Int) = (i : Int) := by omega
    rw [hzi]
    obtain ⟨b, off, t', rfl, hb, ht', q5, rx⟩ := (H.out.next B1.out).elem hil
    rw [ht] at ht'
    injection ht' with ht'
    subst ht'
    obtain ⟨q0, q1, q2, q3, q4⟩ := q5
    have RX := Lib.hid rx
    clear ht rx e1 f1 hp hzi
    go_wp2_with fail
    refine (copyThing_any w1 d t.id t.label t.o t.i t.A t.c t.l RX.out).mono ?_
    rintro e w2 ⟨E, e1, r, rfl, hr, hm, hmp, hb2⟩
    have HRW := Lib.hid hr
    have HM := Lib.hid hm
    have MP := Lib.hid hmp
    have B2 := Lib.hid (bnext B1.out hb2)
    have K2m := Lib.hid (K2n.out.next hb2)
    have hs2 := hb2.size
    have HR := Lib.hid (retT_box K2m.out.blk (.int .i64 t.id) (.string t.label) (.int .i64 t.o) (.int .i64 t.i) (.slice E r.length e1))
    obtain ⟨y0, y1, y2, y3, y4, z0, z1, z2, z3, z4, _⟩ := K2m.out
    clear hr hm hmp hb2 q0 q1 q2 q3 q4
    go_wp2
    obtain ⟨F, hF, ⟨r0', r1', r2', r3', r4', _⟩, hk, hsz, hbel⟩ := HR.out
    rw [← hF]
    clear hF
    have hkF := hk w1.heap.size w2.heap.size (by omega)
    exact bodyPost_ret (v := .tuple #[tv t.id t.label t.o t.i E r.length e1, .bool true]) (by simp [results, Try.results54, go_sem, r0', r1', r2', r3', r4']) rfl ⟨⟨t.id, t.label, t.o, t.i, E, e1, r⟩, by rw [HV.out], by rw [HV.out]; simp [TA.tv', TA.ctv, HM.out], HRW.out.imp hkF (by omega) (by rw [hsz]; exact Nat.le_refl _), MP.out.keep HRW.out hkF, hbel _ _ (by omega) B2.out⟩
end Go.Proofs.Ytebkkjfeikpfgaa

