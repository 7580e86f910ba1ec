/- The reader's rows and maps: one item more. -/
import Derived.Test.YtmgjiipooffggaaKH
import Derived.Test.YtmgjiipooffggaaVPh
import Derived.Test.YtmgjiipooffggaaVM
namespace Go.Proofs.Ytmgjiipooffggaa
set_option maxRecDepth 100000
open Go.RowKit Go.Sort
attribute [local go_sem ↓] Go.wp_at_zero Go.wp_at_succ

theorem new_cells (w : World) (t : TypeId) (vs : List Value) (n : Nat) : ∀ j u, vs[j]? = some u → ((w.alloc (.cells vs.toArray t)).drewN n).cell? ((⟨w.heap.size, 0, none⟩ : Addr).add j) = some u := fun j u h => by
  have ad : (⟨w.heap.size, 0, none⟩ : Addr).add j = ⟨w.heap.size, j, none⟩ := by unfold Addr.add; split <;> simp_all
  rw [ad]
  show (w.alloc (.cells vs.toArray t)).cell? _ = _
  rw [World.cell?_alloc_at _ _ _ _ rfl]
  simpa using h

theorem news1 (w : World) (t : TypeId) (vs : List Value) : ∀ j u, vs[j]? = some u → (w.alloc (.cells vs.toArray t)).cell? ((⟨w.heap.size, 0, none⟩ : Addr).add j) = some u := new_cells w t vs 0
theorem news2 (w : World) (t : TypeId) (vs : List Value) (o : Obj) : ∀ j u, vs[j]? = some u → ((w.alloc (.cells vs.toArray t)).alloc o).cell? ((⟨w.heap.size, 0, none⟩ : Addr).add j) = some u := fun j u h => by
  rw [← news1 w t vs j u h]
  have ad : (⟨w.heap.size, 0, none⟩ : Addr).add j = ⟨w.heap.size, j, none⟩ := by unfold Addr.add; split <;> simp_all
  rw [ad]
  exact (below_new _ _).cell (p := ⟨w.heap.size, j, none⟩) (by simp)
theorem news3 (w : World) (t : TypeId) (vs : List Value) (o : Obj) : ∀ j u, vs[j]? = some u → ((w.alloc o).alloc (.cells vs.toArray t)).cell? ((⟨w.heap.size + 1, 0, none⟩ : Addr).add j) = some u := by
  have := news1 (w.alloc o) t vs
  rwa [size_alloc] at this
def zAt : At := ⟨zeroV, none, 0, none, 0⟩
def IsZero : Value → World → Prop := fun x w => ∃ z : Nat, x = .slice (some ⟨z, 0, none⟩) 1 1 ∧ (∀ j u, zAt.pr.kc[j]? = some u → w.cell? ((⟨z, 0, none⟩ : Addr).add j) = some u) ∧ z < w.heap.size
theorem IsZero.stays : Stays IsZero := fun _ _ _ ⟨z, e, h, hz⟩ hb => ⟨z, e, fun j u hj => by
  have := h j u hj
  rw [show ((⟨z, 0, none⟩ : Addr).add j) = ⟨z, j, none⟩ from by unfold Addr.add; split <;> simp_all] at this ⊢
  rw [hb.cell hz]; exact this, Nat.lt_of_lt_of_le hz hb.size⟩

/-- A value read, or none. -/
def ReadPost (w : World) (g : Nat) (s : ByteArray) (d : Nat) (o : Option (V × Bs)) (e : Ending) (w' : World) : Prop :=
  ∃ (q : At) (b : Bool) (l' : Bs), e = .returned (.tuple #[q.v, .bool b]) ∧ Rd w' w.heap.size w'.heap.size d q.t q.A q.c q.A' q.c' ∧ RL w' g s l' ∧ RK g w w' ∧ (∀ t r, o = some (t, r) → b = true ∧ q.t = t ∧ l' = r) ∧ (o = none → b = false)
def ReadOk (r : Nat) : Prop := ∀ (w : World) (g : Nat) (s : ByteArray) (l : Bs) (lev : Int), lev = 13 - r → r ≤ 12 → RL w g s l →
  Calls Try.prog 32 #[.pointer (some ⟨g, 0, none⟩), .int .i64 lev] w (ReadPost w g s (r + 1) (rd r l))

theorem Cell.set3 {w : World} {g : Nat} {v0 v1 v2 v3 v4 : Value} (h : Cell w g v0 v1 v2 v3 v4) (u : Value) : Cell (w.setCell ⟨g, 3, none⟩ u) g v0 v1 v2 u v4 := by
  obtain ⟨cs, k1, k2⟩ := h.blk
  have hh := set_heap w g 3 u cs k1
  have q0 := h.c0
  have q1 := h.c1
  have q2 := h.c2
  have q4 := h.c4
  rw [cell_of_row _ _ _ _ _ _ k1] at q0 q1 q2 q4
  have hblk := h.blk.set ⟨g, 3, none⟩ u rfl
  refine ⟨?_, ?_, ?_, ?_, ?_, hblk.frozen 0, hblk.frozen 1, hblk.frozen 2, hblk.frozen 3, hblk.frozen 4, hblk⟩
  all_goals (rw [cell_of_row _ _ _ _ _ _ hh]; simp [Array.getElem?_setIfInBounds, q0, q1, q2, q4]; try omega)
theorem Cell.set4 {w : World} {g : Nat} {v0 v1 v2 v3 v4 : Value} (h : Cell w g v0 v1 v2 v3 v4) (u : Value) : Cell (w.setCell ⟨g, 4, none⟩ u) g v0 v1 v2 v3 u := by
  obtain ⟨cs, k1, k2⟩ := h.blk
  have hh := set_heap w g 4 u cs k1
  have q0 := h.c0
  have q1 := h.c1
  have q2 := h.c2
  have q3 := h.c3
  rw [cell_of_row _ _ _ _ _ _ k1] at q0 q1 q2 q3
  have hblk := h.blk.set ⟨g, 4, none⟩ u rfl
  refine ⟨?_, ?_, ?_, ?_, ?_, hblk.frozen 0, hblk.frozen 1, hblk.frozen 2, hblk.frozen 3, hblk.frozen 4, hblk⟩
  all_goals (rw [cell_of_row _ _ _ _ _ _ hh]; simp [Array.getElem?_setIfInBounds, q0, q1, q2, q3]; try omega)
theorem put5_set (w : World) (g h j o : Nat) (u v0 v1 v2 v3 v4 : Value) (hne : g ≠ h) : (put5 w h o v0 v1 v2 v3 v4).setCell ⟨g, j, none⟩ u = put5 (w.setCell ⟨g, j, none⟩ u) h o v0 v1 v2 v3 v4 := by
  unfold put5
  have c : ∀ (w : World) (i : Nat) (v : Value), (w.setCell ⟨h, i, none⟩ v).setCell ⟨g, j, none⟩ u = (w.setCell ⟨g, j, none⟩ u).setCell ⟨h, i, none⟩ v := fun w i v => setCell_comm w ⟨h, i, none⟩ ⟨g, j, none⟩ v u (fun e => hne e.symm)
  rw [c, c, c, c, c]
set_option maxHeartbeats 800000 in
theorem row_fin {w0 W wf wA : World} {g d g3 g5 r0 gx : Nat} {lev k : Int} {accL : List At} {AL : Option Addr} {cL gN cN : Nat} {s : ByteArray} {l' : Bs} {q : At} (h : Gr w0 W g d g3 g5 r0 gx lev k accL [] AL cL none 0) (hb : RK g W wf) (hR : RL wf g s l')
    (hq : Rd wf W.heap.size wf.heap.size d q.t q.A q.c q.A' q.c') (hv : VG wA (gx + 1) (.slice (some ⟨gN, 0, none⟩) (accL.length + 1) cN) Pr.kc (accL.map At.pr ++ [zAt.pr])) (hg : wf.grownBy wA (Value.slice AL accL.length cL).ownBlock) (hat : (Value.slice AL accL.length cL).ownBlock = some gN ∨ gN = wf.heap.size) :
    RL ((put5 wA gN (accL.length * 5) (.int .i64 q.t.k) (.int .i64 q.t.n) (.string q.t.s) (.slice q.A q.t.l.length q.c) (.slice q.A' q.t.m.length q.c')).setCell ⟨gx, 3, none⟩ (.slice (some ⟨gN, 0, none⟩) (accL.length + 1) cN)) g s l' ∧
    Gr w0 ((put5 wA gN (accL.length * 5) (.int .i64 q.t.k) (.int .i64 q.t.n) (.string q.t.s) (.slice q.A q.t.l.length q.c) (.slice q.A' q.t.m.length q.c')).setCell ⟨gx, 3, none⟩ (.slice (some ⟨gN, 0, none⟩) (accL.length + 1) cN)) g d g3 g5 r0 gx lev k (accL ++ [q]) [] (some ⟨gN, 0, none⟩) cN none 0 := by
  have hf := h.next hb
  have ll := hf.vl.lt
  have hgx := hf.lx
  have hgN : gx < gN := by
    rcases hat with e | e
    · have := (ll gN e).1; omega
    · omega
  have k1 := h.gg; have k2 := h.l3; have k3 := h.l5; have k4 := h.l2; have k5 := h.l0
  have e1 : (accL ++ [q]).length = accL.length + 1 := by simp
  have keep : ∀ i, i < wf.heap.size → (Value.slice AL accL.length cL).ownBlock ≠ some i → i ≠ gx → ((put5 wA gN (accL.length * 5) (.int .i64 q.t.k) (.int .i64 q.t.n) (.string q.t.s) (.slice q.A q.t.l.length q.c) (.slice q.A' q.t.m.length q.c')).setCell ⟨gx, 3, none⟩ (.slice (some ⟨gN, 0, none⟩) (accL.length + 1) cN)).heap[i]? = wf.heap[i]? := fun i hi hn hx => by
    rw [Below.heap_setCell _ _ _ _ hx, put5_far _ _ _ _ _ _ _ _ _ (fun e => by subst e; rcases hat with e | e; exact hn e; omega)]
    exact hg.block i hi (fun e => hn e.symm)
  have low : ∀ i, i < gx → ((put5 wA gN (accL.length * 5) (.int .i64 q.t.k) (.int .i64 q.t.n) (.string q.t.s) (.slice q.A q.t.l.length q.c) (.slice q.A' q.t.m.length q.c')).setCell ⟨gx, 3, none⟩ (.slice (some ⟨gN, 0, none⟩) (accL.length + 1) cN)).heap[i]? = wf.heap[i]? := fun i hi => keep i (by omega) (fun e => by have := (ll i e).1; omega) (by omega)
  have hbox : Cell ((put5 wA gN (accL.length * 5) (.int .i64 q.t.k) (.int .i64 q.t.n) (.string q.t.s) (.slice q.A q.t.l.length q.c) (.slice q.A' q.t.m.length q.c')).setCell ⟨gx, 3, none⟩ (.slice (some ⟨gN, 0, none⟩) (accL.length + 1) cN)) gx (.int .i64 k) (.int .i64 0) (.string ⟨#[]⟩) (.slice (some ⟨gN, 0, none⟩) (accL.length + 1) cN) (.slice none 0 0) := by
    refine Cell.set3 (v3 := .slice AL accL.length cL) ?_ _
    exact Cell.kept (hf.box.kept (hg.block gx hgx (fun e => by have := (ll gx e.symm).1; omega))) (put5_far _ _ _ _ _ _ _ _ _ (by omega))
  have hvg : VG ((put5 wA gN (accL.length * 5) (.int .i64 q.t.k) (.int .i64 q.t.n) (.string q.t.s) (.slice q.A q.t.l.length q.c) (.slice q.A' q.t.m.length q.c')).setCell ⟨gx, 3, none⟩ (.slice (some ⟨gN, 0, none⟩) (accL.length + 1) cN)) (gx + 1) (.slice (some ⟨gN, 0, none⟩) (accL.length + 1) cN) Pr.kc ((accL ++ [q]).map At.pr) := by
    have hv' : VG wA (gx + 1) (.slice (some ⟨gN, 0, none⟩) (accL.map At.pr ++ [zAt.pr]).length cN) Pr.kc (accL.map At.pr ++ [zAt.pr]) := by simpa using hv
    have := VG.put (p := q.pr) hv' (v0 := .int .i64 q.t.k) (v1 := .int .i64 q.t.n) (v2 := .string q.t.s) (v3 := .slice q.A q.t.l.length q.c) (v4 := .slice q.A' q.t.m.length q.c') rfl
    rw [List.length_map] at this
    have e2 : (accL ++ [q]).map At.pr = accL.map At.pr ++ [q.pr] := by simp
    rw [e2]
    have e3 : (accL.map At.pr ++ [zAt.pr]).length = accL.length + 1 := by simp
    rw [e3] at this
    exact this.keep (fun b hb hl _ => Below.heap_setCell _ _ _ _ (show b ≠ gx by omega))
  have o1 : ((put5 wA gN (accL.length * 5) (.int .i64 q.t.k) (.int .i64 q.t.n) (.string q.t.s) (.slice q.A q.t.l.length q.c) (.slice q.A' q.t.m.length q.c')).setCell ⟨gx, 3, none⟩ (.slice (some ⟨gN, 0, none⟩) (accL.length + 1) cN)).os = wA.os := by simp only [World.setCell]
  have o2 : ((put5 wA gN (accL.length * 5) (.int .i64 q.t.k) (.int .i64 q.t.n) (.string q.t.s) (.slice q.A q.t.l.length q.c) (.slice q.A' q.t.m.length q.c')).setCell ⟨gx, 3, none⟩ (.slice (some ⟨gN, 0, none⟩) (accL.length + 1) cN)).tape = wA.tape := by simp only [World.setCell]
  have o3 : ((put5 wA gN (accL.length * 5) (.int .i64 q.t.k) (.int .i64 q.t.n) (.string q.t.s) (.slice q.A q.t.l.length q.c) (.slice q.A' q.t.m.length q.c')).setCell ⟨gx, 3, none⟩ (.slice (some ⟨gN, 0, none⟩) (accL.length + 1) cN)).output = wA.output := by simp only [World.setCell]
  have o4 : ((put5 wA gN (accL.length * 5) (.int .i64 q.t.k) (.int .i64 q.t.n) (.string q.t.s) (.slice q.A q.t.l.length q.c) (.slice q.A' q.t.m.length q.c')).setCell ⟨gx, 3, none⟩ (.slice (some ⟨gN, 0, none⟩) (accL.length + 1) cN)).heap.size = wA.heap.size := by simp [World.setCell]
  generalize ((put5 wA gN (accL.length * 5) (.int .i64 q.t.k) (.int .i64 q.t.n) (.string q.t.s) (.slice q.A q.t.l.length q.c) (.slice q.A' q.t.m.length q.c')).setCell ⟨gx, 3, none⟩ (.slice (some ⟨gN, 0, none⟩) (accL.length + 1) cN)) = Z at *
  refine ⟨hR.kept (low g (by omega)), h.put hb ⟨(o1.trans hg.os).symm, (o2.trans hg.tape).symm, (o3.trans hg.output).symm, by rw [o4]; exact hg.size⟩ (fun i hi hn _ hx => keep i hi hn hx) (by rw [e1]; exact hbox) (by rw [e1]; exact hvg) (.inl ⟨rfl, rfl⟩) (fun b _ hb => by cases hb) (fun b hb => ?_) (fun b hb => by cases hb) (fun z hz => ?_)⟩
  · rw [e1] at hb
    injection hb with hb
    have hb : gN = b := hb
    rcases hat with h' | h'
    · exact .inl (by rw [← hb]; exact h')
    · exact .inr (by omega)
  · rw [List.append_nil] at hz
    rcases List.mem_append.1 hz with h' | h'
    · exact .inl (by rw [List.append_nil]; exact h')
    · have : z = q := by simpa using h'
      subst this
      exact .inr hq
def RowOne (w0 : World) (g : Nat) (s : ByteArray) (d g3 g5 r0 gx : Nat) (lev k : Int) (accL : List At) (o : Option (V × Bs)) (e : Ending) (w' : World) : Prop :=
  ∃ (q : At) (b : Bool) (l' : Bs) (AL : Option Addr) (cL : Nat), e = .returned (.bool b) ∧ RL w' g s l' ∧ Gr w0 w' g d g3 g5 r0 gx lev k (accL ++ [q]) [] AL cL none 0 ∧ (∀ t r, o = some (t, r) → b = true ∧ q.t = t ∧ l' = r) ∧ (o = none → b = false)
def i2D : Nat → Tmp := fun j => [13, 14, 15, 16, 17, 18, 19, 0, 20, 0].getD j 0
def i2E : Nat → List Nat := fun j => [[], [0], [], [1], [], [], [], [], [], []].getD j []

set_option maxHeartbeats 8000000 in
theorem rowOne_any (r : Nat) (ih : ReadOk r) (hr : r ≤ 11) (w0 W : World) (g : Nat) (s : ByteArray) (g3 g5 r0 gx : Nat) (lev k : Int) (hlev : lev = 12 - r) (accL : List At) (AL : Option Addr) (cL : Nat) (hC : Gr w0 W g (r + 1) g3 g5 r0 gx lev k accL [] AL cL none 0) (hlen : accL.length < 1000) (l : Bs) (hR : RL W g s l) :
    Calls Try.prog 86 #[.pointer (some ⟨g3, 0, none⟩), .pointer (some ⟨g5, 0, none⟩), .pointer (some ⟨gx, 0, none⟩)] W (RowOne w0 g s (r + 1) g3 g5 r0 gx lev k accL (rd r l)) := by
  have HC0 := Lib.hid hC
  have HR0 := Lib.hid hR
  have HR := Lib.hid (ih W g s l (lev + 1) (by omega) (by omega) hR)
  have i3 : IntKind.i64.wrap (lev + 1) = lev + 1 := IntWalk.i64_in _ (by omega)
  have p3 := hC.p3
  have p5 := hC.p5
  clear hC hR ih hlev
  generalize hO : rd r l = O at *
  clear hO
  go_enter Try.func86, Try.ntmps86
  go_wp2_with fail
  refine HR.out.mono ?_
  rintro e w1 ⟨q, b, l', rfl, rq, r1, k1, hx, hn⟩
  have RQ := Lib.hid rq
  have R1 := Lib.hid r1
  have K1 := Lib.hid k1
  have HX := Lib.hid hx
  have HN := Lib.hid hn
  clear rq r1 k1 hx hn HR p3 p5
  go_upto_region 2 with fail
  have BN := below_new w1 (.cells #[.int .i64 q.t.k, .int .i64 q.t.n, .string q.t.s, .slice q.A q.t.l.length q.c, .slice q.A' q.t.m.length q.c'] 24)
  have HBX := Lib.hid (Bx.new w1 q)
  generalize hW2 : World.alloc w1 _ = W2 at BN HBX ⊢
  have HB2 := Lib.hid BN
  have HGI := Lib.hid (show w1.heap.size < W2.heap.size by rw [← hW2]; simp)
  clear hW2 BN
  have K2 := Lib.hid (K1.out.trans (RK.below HB2.out R1.out.lt))
  have HC := Lib.hid (HC0.out.next K2.out)
  have RQ2 := Lib.hid (Rd.imp (Kept.of_below HB2.out (Nat.le_refl _)) (Nat.le_refl _) HB2.out.size (Nat.le_refl _) RQ.out)
  have R2 := Lib.hid (R1.out.next HB2.out)
  generalize w1.heap.size = gi at *
  refine region_phase [0, 1, 2, 3, 4] [] i2D i2E 5 (fun w' => Below W2.heap.size W2 w') (saidOf [Is (.pointer (some ⟨gx, 3, none⟩)), Is (.slice AL accL.length cL), Is q.v, Is (.int .i64 (accL.length : Int)), IsZero, fun _ _ => True, fun _ _ => True, fun _ _ => True, fun _ _ => True, fun _ _ => True]) 22 rfl (by kernel_rfl) (by kernel_rfl) (fun _ _ h hb => bnext h hb) (stays_said _ (stays_cons (Is.stays _) (stays_cons (Is.stays _) (stays_cons (Is.stays _) (stays_cons (Is.stays _) (stays_cons IsZero.stays (stays_cons (fun _ _ _ _ _ => trivial) (stays_cons (fun _ _ _ _ _ => trivial) (stays_cons (fun _ _ _ _ _ => trivial) (stays_cons (fun _ _ _ _ _ => trivial) (stays_cons (fun _ _ _ _ _ => trivial) stays_nil))))))))))) (below_drewN _ _ 1) (by kernel_rfl) ?_ ?_
  · skip
    refine owes_cons (Owes.mk (o := ({ dst := some 13, op := .fieldAddr 24 (.tmp 2) 3, type := 0, pos := "reader.go:117", after := #[], guard := none } : Oper)) rfl (fun v wk hj hD K hK => ?_)) ?_
    · simp only [i2D, i2E, putAll, Act.put, List.getD_cons_zero, List.setIfInBounds_toArray, List.set_cons_zero, List.set_cons_succ] at hK ⊢
      go_simp
      exact hK.out _ _ (Below.refl _ _) rfl
    refine owes_cons (Owes.mk (o := ({ dst := some 14, op := .load 22 (.tmp 13), type := 22, pos := "reader.go:117", after := #[{ on := 0, ground := .data }], guard := none } : Oper)) rfl (fun v wk hj hD K hK => ?_)) ?_
    · have h0 : v 0 = (.pointer (some ⟨gx, 3, none⟩)) := hD 0 (by decide)
      simp only [i2D, i2E, putAll, Act.put, List.getD_cons_succ, List.getD_cons_zero, List.setIfInBounds_toArray, List.set_cons_zero, List.set_cons_succ, h0] at hK ⊢
      obtain ⟨q0, q1, q2, q3, q4, _⟩ := (HC.out.next (RK.below hj HC.out.lt)).box
      go_simp
      exact hK.out _ _ (Below.refl _ _) rfl
    refine owes_cons (Owes.mk (o := ({ dst := some 15, op := .load 24 (.tmp 4), type := 24, pos := "reader.go:117", after := #[], guard := none } : Oper)) rfl (fun v wk hj hD K hK => ?_)) ?_
    · simp only [i2D, i2E, putAll, Act.put, List.getD_cons_succ, List.getD_cons_zero, List.setIfInBounds_toArray, List.set_cons_zero, List.set_cons_succ] at hK ⊢
      obtain ⟨q0, q1, q2, q3, q4, _⟩ := HBX.out.next hj
      go_simp
      exact hK.out _ _ (Below.refl _ _) rfl
    refine owes_cons (Owes.mk (o := ({ dst := some 16, op := .call { callee := .builtin .len, args := #[.tmp 14], argTypes := #[22] }, type := 3, pos := "reader.go:117", after := #[{ on := 1, ground := .data }], guard := none } : Oper)) rfl (fun v wk hj hD K hK => ?_)) ?_
    · have h1 : v 1 = (.slice AL accL.length cL) := hD 1 (by decide)
      simp only [i2D, i2E, putAll, Act.put, List.getD_cons_succ, List.getD_cons_zero, List.setIfInBounds_toArray, List.set_cons_zero, List.set_cons_succ, h1] at hK ⊢
      go_simp
      exact hK.out _ _ (Below.refl _ _) rfl
    refine owes_cons (Owes.mk (o := ({ dst := some 17, op := .buildSlice 22 1 #[(0, .const (.agg #[.int .i64 0, .int .i64 0, .string { data := #[] }, .slice none 0 0, .slice none 0 0]))], type := 22, pos := "reader.go:117", after := #[], guard := none } : Oper)) rfl (fun v wk hj hD K hK => ?_)) ?_
    · simp only [i2D, i2E, putAll, Act.put, List.getD_cons_succ, List.getD_cons_zero, List.setIfInBounds_toArray, List.set_cons_zero, List.set_cons_succ] at hK ⊢
      go_simp
      exact hK.out _ _ (below_new _ _) ⟨_, rfl, news1 wk 24 zAt.pr.kc, by simp⟩
    exact owes_nil
  · intro p v wf h1 h2 hj hr
    obtain rfl := marks_all h1 (fun m hm => h2 m hm (by simp))
    have hv1 : v 1 = .slice AL accL.length cL := hr 1 (by decide) (by decide)
    have hv2 : v 2 = q.v := hr 2 (by decide) (by decide)
    have hv3 : v 3 = .int .i64 (accL.length : Int) := hr 3 (by decide) (by decide)
    obtain ⟨z, hv4, hnews, hz⟩ : IsZero (v 4) wf := hr 4 (by decide) (by decide)
    rw [show List.filter (fun k => [0, 1, 2, 3, 4].contains k) [0, 1, 2, 3, 4] = [0, 1, 2, 3, 4] from rfl]
    simp only [i2D, putAll, Act.put, List.getD_cons_succ, List.getD_cons_zero, List.setIfInBounds_toArray, List.set_cons_zero, List.set_cons_succ, hv1, hv2, hv3, hv4]
    clear hv1 hv2 hv3 hv4 hr h1 h2
    have HJ := Lib.hid hj
    have HN4 := Lib.hid hnews
    clear hj hnews
    have HF := Lib.hid (HC.out.next (RK.below HJ.out HC.out.lt))
    refine anyN_any (S := fun _ => True) (N := []) _ _ _ _ ?_
    refine anyN_one (i := 5) (o := ({ dst := some 18, op := .call { callee := .builtin .append, args := #[.tmp 14, .tmp 17], argTypes := #[22, 22] }, type := 22, pos := "reader.go:117", after := #[{ on := 1, ground := .data }, { on := 4, ground := .data }, { on := 0, ground := .phase }, { on := 1, ground := .phase }, { on := 2, ground := .phase }, { on := 3, ground := .phase }, { on := 4, ground := .phase }], guard := none } : Oper)) (by kernel_rfl) rfl (fun K hK => ?_)
    refine step_append_big (by rfl) (.tmp 14) (.tmp 17) (by rfl) (gx + 1) AL cL (accL.map At.pr) zAt.pr (by simp [Act.eval]) (by have := HF.out.vl; rw [← List.length_map (f := At.pr)] at this; exact this) ⟨z, 0, none⟩ (by simp [Act.eval]) HN4.out (by rw [List.length_map]; omega) (by have := HF.out.lx; omega) ?_
    intro gN cN wA hvA hgA hatA hltA
    rw [List.length_map] at hvA hgA hatA ⊢
    refine hK.out _ _ (fun _ => trivial) ?_
    clear hK K
    have HVA := Lib.hid hvA
    have HGA := Lib.hid hgA
    have HAT := Lib.hid hatA
    obtain ⟨hBN, hcap, hgt⟩ : Blk wA gN cN ∧ accL.length + 1 ≤ cN ∧ gx + 1 ≤ gN := by
      rcases hvA with ⟨e, _⟩ | ⟨g', cap', e, h1, h2, h3, h4, h5⟩
      · cases e
      · injection e with e1 _ e3
        injection e1 with e1
        injection e1 with e1
        subst e1; subst e3
        exact ⟨h4, by simpa using h2, h1⟩
    have hcx := HF.out.box.kept (hgA.block gx HF.out.lx (fun e => by have := (HF.out.vl.lt gx e.symm).1; omega))
    have HCX := Lib.hid hcx
    obtain ⟨y0, y1, y2, y3, y4, z0, z1, z2, z3, z4, _⟩ := hcx
    obtain ⟨u0, a0⟩ := hBN.cell (i := accL.length * 5) (by omega)
    obtain ⟨u1, a1⟩ := hBN.cell (i := accL.length * 5 + 1) (by omega)
    obtain ⟨u2, a2⟩ := hBN.cell (i := accL.length * 5 + 2) (by omega)
    obtain ⟨u3, a3⟩ := hBN.cell (i := accL.length * 5 + 3) (by omega)
    obtain ⟨u4, a4⟩ := hBN.cell (i := accL.length * 5 + 4) (by omega)
    have f0 := hBN.frozen (accL.length * 5)
    have f1 := hBN.frozen (accL.length * 5 + 1)
    have f2 := hBN.frozen (accL.length * 5 + 2)
    have f3 := hBN.frozen (accL.length * 5 + 3)
    have f4 := hBN.frozen (accL.length * 5 + 4)
    have n0 : (0 : Int) ≤ (accL.length : Int) := by omega
    have n1 : (accL.length : Int) < (accL.length : Int) + 1 := by omega
    have g1 : gx ≠ gN := by omega
    have g2 : gN ≠ gx := by omega
    have FIN : Hid (RL ((put5 wA gN (accL.length * 5) (.int .i64 q.t.k) (.int .i64 q.t.n) (.string q.t.s) (.slice q.A q.t.l.length q.c) (.slice q.A' q.t.m.length q.c')).setCell ⟨gx, 3, none⟩ (.slice (some ⟨gN, 0, none⟩) (accL.length + 1) cN)) g s l' ∧
        Gr w0 ((put5 wA gN (accL.length * 5) (.int .i64 q.t.k) (.int .i64 q.t.n) (.string q.t.s) (.slice q.A q.t.l.length q.c) (.slice q.A' q.t.m.length q.c')).setCell ⟨gx, 3, none⟩ (.slice (some ⟨gN, 0, none⟩) (accL.length + 1) cN)) g (r + 1) g3 g5 r0 gx lev k (accL ++ [q]) [] (some ⟨gN, 0, none⟩) cN none 0) :=
      Lib.hid (row_fin HC0.out (K2.out.trans (RK.below HJ.out HC.out.lt)) (R2.out.next HJ.out) (Rd.imp (Kept.of_below HJ.out (Nat.le_refl _)) (Nat.le_refl _) HJ.out.size (Nat.le_refl _) RQ2.out) HVA.out HGA.out HAT.out)
    clear hvA hgA hatA hltA hBN
    refine anyN_two (i := 6) (i' := 8) (o := ({ dst := some 19, op := .indexAddr 22 (.tmp 18) (.tmp 16), type := 0, pos := "reader.go:117", after := #[{ on := 5, ground := .data }, { on := 3, ground := .data }, { on := 0, ground := .phase }, { on := 1, ground := .phase }, { on := 2, ground := .phase }, { on := 3, ground := .phase }, { on := 4, ground := .phase }, { on := 5, ground := .phase }, { on := 9, ground := .gcOnly .appendInPlace }], guard := none } : Oper)) (o' := ({ dst := some 20, op := .fieldAddr 24 (.tmp 2) 3, type := 0, pos := "reader.go:117", after := #[{ on := 0, ground := .phase }, { on := 1, ground := .phase }, { on := 2, ground := .phase }, { on := 3, ground := .phase }, { on := 4, ground := .phase }, { on := 5, ground := .phase }, { on := 6, ground := .textOnly .appendInPlace }, { on := 7, ground := .textOnly .appendInPlace }], guard := none } : Oper)) (by kernel_rfl) rfl rfl (fun K hK => ?_) (fun K hK => ?_)
    · try simp only [Act.put, List.setIfInBounds_toArray, List.set_cons_zero, List.set_cons_succ]
      go_simp
      refine hK.out _ _ (fun _ => trivial) ?_
      clear hK K
      try simp only [Act.put, List.setIfInBounds_toArray, List.set_cons_zero, List.set_cons_succ]
      refine anyN_two (i := 7) (i' := 8) (o := ({ dst := none, op := .store 24 (.tmp 19) (.tmp 15), type := 0, pos := "reader.go:117", after := #[{ on := 6, ground := .data }, { on := 2, ground := .data }, { on := 5, ground := .chain }, { on := 0, ground := .phase }, { on := 1, ground := .phase }, { on := 2, ground := .phase }, { on := 3, ground := .phase }, { on := 4, ground := .phase }, { on := 5, ground := .phase }, { on := 9, ground := .gcOnly .appendInPlace }], guard := none } : Oper)) (o' := ({ dst := some 20, op := .fieldAddr 24 (.tmp 2) 3, type := 0, pos := "reader.go:117", after := #[{ on := 0, ground := .phase }, { on := 1, ground := .phase }, { on := 2, ground := .phase }, { on := 3, ground := .phase }, { on := 4, ground := .phase }, { on := 5, ground := .phase }, { on := 6, ground := .textOnly .appendInPlace }, { on := 7, ground := .textOnly .appendInPlace }], guard := none } : Oper)) (by kernel_rfl) rfl rfl (fun K hK => ?_) (fun K hK => ?_)
      · try simp only [Act.put]
        go_simp
        refine hK.out _ _ (fun _ => trivial) ?_
        clear hK K
        try simp only [Act.put, List.setIfInBounds_toArray, List.set_cons_zero, List.set_cons_succ]
        refine anyN_one (i := 8) (o := ({ dst := some 20, op := .fieldAddr 24 (.tmp 2) 3, type := 0, pos := "reader.go:117", after := #[{ on := 0, ground := .phase }, { on := 1, ground := .phase }, { on := 2, ground := .phase }, { on := 3, ground := .phase }, { on := 4, ground := .phase }, { on := 5, ground := .phase }, { on := 6, ground := .textOnly .appendInPlace }, { on := 7, ground := .textOnly .appendInPlace }], guard := none } : Oper)) (by kernel_rfl) rfl (fun K hK => ?_)
        try simp only [Act.put, List.setIfInBounds_toArray, List.set_cons_zero, List.set_cons_succ]
        go_simp
        refine hK.out _ _ (fun _ => trivial) ?_
        clear hK K
        try simp only [Act.put, List.setIfInBounds_toArray, List.set_cons_zero, List.set_cons_succ]
        refine anyN_one (i := 9) (o := ({ dst := none, op := .store 22 (.tmp 20) (.tmp 18), type := 0, pos := "reader.go:117", after := #[{ on := 8, ground := .data }, { on := 5, ground := .data }, { on := 5, ground := .chain }, { on := 7, ground := .textOnly .appendInPlace }, { on := 0, ground := .phase }, { on := 1, ground := .phase }, { on := 2, ground := .phase }, { on := 3, ground := .phase }, { on := 4, ground := .phase }, { on := 5, ground := .phase }, { on := 6, ground := .textOnly .appendInPlace }, { on := 7, ground := .textOnly .appendInPlace }], guard := none } : Oper)) (by kernel_rfl) rfl (fun K hK => ?_)
        try simp only [Act.put]
        go_simp
        refine hK.out _ _ (fun _ => trivial) ?_
        clear hK K
        try simp only [Act.put, List.setIfInBounds_toArray, List.set_cons_zero, List.set_cons_succ]
        refine anyN_done (by kernel_rfl) ?_ _
        go_wp2
        go_ret
        exact ⟨q, b, l', _, _, rfl, FIN.out.1, FIN.out.2, HX.out, HN.out⟩
      · try simp only [Act.put, List.setIfInBounds_toArray, List.set_cons_zero, List.set_cons_succ]
        go_simp
        refine hK.out _ _ (fun _ => trivial) ?_
        clear hK K
        try simp only [Act.put, List.setIfInBounds_toArray, List.set_cons_zero, List.set_cons_succ]
        refine anyN_two (i := 7) (i' := 9) (o := ({ dst := none, op := .store 24 (.tmp 19) (.tmp 15), type := 0, pos := "reader.go:117", after := #[{ on := 6, ground := .data }, { on := 2, ground := .data }, { on := 5, ground := .chain }, { on := 0, ground := .phase }, { on := 1, ground := .phase }, { on := 2, ground := .phase }, { on := 3, ground := .phase }, { on := 4, ground := .phase }, { on := 5, ground := .phase }, { on := 9, ground := .gcOnly .appendInPlace }], guard := none } : Oper)) (o' := ({ dst := none, op := .store 22 (.tmp 20) (.tmp 18), type := 0, pos := "reader.go:117", after := #[{ on := 8, ground := .data }, { on := 5, ground := .data }, { on := 5, ground := .chain }, { on := 7, ground := .textOnly .appendInPlace }, { on := 0, ground := .phase }, { on := 1, ground := .phase }, { on := 2, ground := .phase }, { on := 3, ground := .phase }, { on := 4, ground := .phase }, { on := 5, ground := .phase }, { on := 6, ground := .textOnly .appendInPlace }, { on := 7, ground := .textOnly .appendInPlace }], guard := none } : Oper)) (by kernel_rfl) rfl rfl (fun K hK => ?_) (fun K hK => ?_)
        · try simp only [Act.put]
          go_simp
          refine hK.out _ _ (fun _ => trivial) ?_
          clear hK K
          try simp only [Act.put, List.setIfInBounds_toArray, List.set_cons_zero, List.set_cons_succ]
          refine anyN_one (i := 9) (o := ({ dst := none, op := .store 22 (.tmp 20) (.tmp 18), type := 0, pos := "reader.go:117", after := #[{ on := 8, ground := .data }, { on := 5, ground := .data }, { on := 5, ground := .chain }, { on := 7, ground := .textOnly .appendInPlace }, { on := 0, ground := .phase }, { on := 1, ground := .phase }, { on := 2, ground := .phase }, { on := 3, ground := .phase }, { on := 4, ground := .phase }, { on := 5, ground := .phase }, { on := 6, ground := .textOnly .appendInPlace }, { on := 7, ground := .textOnly .appendInPlace }], guard := none } : Oper)) (by kernel_rfl) rfl (fun K hK => ?_)
          try simp only [Act.put]
          go_simp
          refine hK.out _ _ (fun _ => trivial) ?_
          clear hK K
          try simp only [Act.put, List.setIfInBounds_toArray, List.set_cons_zero, List.set_cons_succ]
          refine anyN_done (by kernel_rfl) ?_ _
          go_wp2
          go_ret
          exact ⟨q, b, l', _, _, rfl, FIN.out.1, FIN.out.2, HX.out, HN.out⟩
        · try simp only [Act.put]
          go_simp
          refine hK.out _ _ (fun _ => trivial) ?_
          clear hK K
          try simp only [Act.put, List.setIfInBounds_toArray, List.set_cons_zero, List.set_cons_succ]
          refine anyN_one (i := 7) (o := ({ dst := none, op := .store 24 (.tmp 19) (.tmp 15), type := 0, pos := "reader.go:117", after := #[{ on := 6, ground := .data }, { on := 2, ground := .data }, { on := 5, ground := .chain }, { on := 0, ground := .phase }, { on := 1, ground := .phase }, { on := 2, ground := .phase }, { on := 3, ground := .phase }, { on := 4, ground := .phase }, { on := 5, ground := .phase }, { on := 9, ground := .gcOnly .appendInPlace }], guard := none } : Oper)) (by kernel_rfl) rfl (fun K hK => ?_)
          try simp only [Act.put]
          go_simp
          refine hK.out _ _ (fun _ => trivial) ?_
          clear hK K
          try simp only [Act.put, List.setIfInBounds_toArray, List.set_cons_zero, List.set_cons_succ]
          refine anyN_done (by kernel_rfl) ?_ _
          go_wp2
          go_ret
          exact ⟨q, b, l', _, _, rfl, by have := FIN.out.1; rw [put5_set _ _ _ _ _ _ _ _ _ _ _ g1] at this; exact this, by have := FIN.out.2; rw [put5_set _ _ _ _ _ _ _ _ _ _ _ g1] at this; exact this, HX.out, HN.out⟩
    · try simp only [Act.put, List.setIfInBounds_toArray, List.set_cons_zero, List.set_cons_succ]
      go_simp
      refine hK.out _ _ (fun _ => trivial) ?_
      clear hK K
      try simp only [Act.put, List.setIfInBounds_toArray, List.set_cons_zero, List.set_cons_succ]
      refine anyN_two (i := 6) (i' := 9) (o := ({ dst := some 19, op := .indexAddr 22 (.tmp 18) (.tmp 16), type := 0, pos := "reader.go:117", after := #[{ on := 5, ground := .data }, { on := 3, ground := .data }, { on := 0, ground := .phase }, { on := 1, ground := .phase }, { on := 2, ground := .phase }, { on := 3, ground := .phase }, { on := 4, ground := .phase }, { on := 5, ground := .phase }, { on := 9, ground := .gcOnly .appendInPlace }], guard := none } : Oper)) (o' := ({ dst := none, op := .store 22 (.tmp 20) (.tmp 18), type := 0, pos := "reader.go:117", after := #[{ on := 8, ground := .data }, { on := 5, ground := .data }, { on := 5, ground := .chain }, { on := 7, ground := .textOnly .appendInPlace }, { on := 0, ground := .phase }, { on := 1, ground := .phase }, { on := 2, ground := .phase }, { on := 3, ground := .phase }, { on := 4, ground := .phase }, { on := 5, ground := .phase }, { on := 6, ground := .textOnly .appendInPlace }, { on := 7, ground := .textOnly .appendInPlace }], guard := none } : Oper)) (by kernel_rfl) rfl rfl (fun K hK => ?_) (fun K hK => ?_)
      · try simp only [Act.put, List.setIfInBounds_toArray, List.set_cons_zero, List.set_cons_succ]
        go_simp
        refine hK.out _ _ (fun _ => trivial) ?_
        clear hK K
        try simp only [Act.put, List.setIfInBounds_toArray, List.set_cons_zero, List.set_cons_succ]
        refine anyN_two (i := 7) (i' := 9) (o := ({ dst := none, op := .store 24 (.tmp 19) (.tmp 15), type := 0, pos := "reader.go:117", after := #[{ on := 6, ground := .data }, { on := 2, ground := .data }, { on := 5, ground := .chain }, { on := 0, ground := .phase }, { on := 1, ground := .phase }, { on := 2, ground := .phase }, { on := 3, ground := .phase }, { on := 4, ground := .phase }, { on := 5, ground := .phase }, { on := 9, ground := .gcOnly .appendInPlace }], guard := none } : Oper)) (o' := ({ dst := none, op := .store 22 (.tmp 20) (.tmp 18), type := 0, pos := "reader.go:117", after := #[{ on := 8, ground := .data }, { on := 5, ground := .data }, { on := 5, ground := .chain }, { on := 7, ground := .textOnly .appendInPlace }, { on := 0, ground := .phase }, { on := 1, ground := .phase }, { on := 2, ground := .phase }, { on := 3, ground := .phase }, { on := 4, ground := .phase }, { on := 5, ground := .phase }, { on := 6, ground := .textOnly .appendInPlace }, { on := 7, ground := .textOnly .appendInPlace }], guard := none } : Oper)) (by kernel_rfl) rfl rfl (fun K hK => ?_) (fun K hK => ?_)
        · try simp only [Act.put]
          go_simp
          refine hK.out _ _ (fun _ => trivial) ?_
          clear hK K
          try simp only [Act.put, List.setIfInBounds_toArray, List.set_cons_zero, List.set_cons_succ]
          refine anyN_one (i := 9) (o := ({ dst := none, op := .store 22 (.tmp 20) (.tmp 18), type := 0, pos := "reader.go:117", after := #[{ on := 8, ground := .data }, { on := 5, ground := .data }, { on := 5, ground := .chain }, { on := 7, ground := .textOnly .appendInPlace }, { on := 0, ground := .phase }, { on := 1, ground := .phase }, { on := 2, ground := .phase }, { on := 3, ground := .phase }, { on := 4, ground := .phase }, { on := 5, ground := .phase }, { on := 6, ground := .textOnly .appendInPlace }, { on := 7, ground := .textOnly .appendInPlace }], guard := none } : Oper)) (by kernel_rfl) rfl (fun K hK => ?_)
          try simp only [Act.put]
          go_simp
          refine hK.out _ _ (fun _ => trivial) ?_
          clear hK K
          try simp only [Act.put, List.setIfInBounds_toArray, List.set_cons_zero, List.set_cons_succ]
          refine anyN_done (by kernel_rfl) ?_ _
          go_wp2
          go_ret
          exact ⟨q, b, l', _, _, rfl, FIN.out.1, FIN.out.2, HX.out, HN.out⟩
        · try simp only [Act.put]
          go_simp
          refine hK.out _ _ (fun _ => trivial) ?_
          clear hK K
          try simp only [Act.put, List.setIfInBounds_toArray, List.set_cons_zero, List.set_cons_succ]
          refine anyN_one (i := 7) (o := ({ dst := none, op := .store 24 (.tmp 19) (.tmp 15), type := 0, pos := "reader.go:117", after := #[{ on := 6, ground := .data }, { on := 2, ground := .data }, { on := 5, ground := .chain }, { on := 0, ground := .phase }, { on := 1, ground := .phase }, { on := 2, ground := .phase }, { on := 3, ground := .phase }, { on := 4, ground := .phase }, { on := 5, ground := .phase }, { on := 9, ground := .gcOnly .appendInPlace }], guard := none } : Oper)) (by kernel_rfl) rfl (fun K hK => ?_)
          try simp only [Act.put]
          go_simp
          refine hK.out _ _ (fun _ => trivial) ?_
          clear hK K
          try simp only [Act.put, List.setIfInBounds_toArray, List.set_cons_zero, List.set_cons_succ]
          refine anyN_done (by kernel_rfl) ?_ _
          go_wp2
          go_ret
          exact ⟨q, b, l', _, _, rfl, by have := FIN.out.1; rw [put5_set _ _ _ _ _ _ _ _ _ _ _ g1] at this; exact this, by have := FIN.out.2; rw [put5_set _ _ _ _ _ _ _ _ _ _ _ g1] at this; exact this, HX.out, HN.out⟩
      · try simp only [Act.put]
        go_simp
        refine hK.out _ _ (fun _ => trivial) ?_
        clear hK K
        try simp only [Act.put, List.setIfInBounds_toArray, List.set_cons_zero, List.set_cons_succ]
        refine anyN_one (i := 6) (o := ({ dst := some 19, op := .indexAddr 22 (.tmp 18) (.tmp 16), type := 0, pos := "reader.go:117", after := #[{ on := 5, ground := .data }, { on := 3, ground := .data }, { on := 0, ground := .phase }, { on := 1, ground := .phase }, { on := 2, ground := .phase }, { on := 3, ground := .phase }, { on := 4, ground := .phase }, { on := 5, ground := .phase }, { on := 9, ground := .gcOnly .appendInPlace }], guard := none } : Oper)) (by kernel_rfl) rfl (fun K hK => ?_)
        try simp only [Act.put, List.setIfInBounds_toArray, List.set_cons_zero, List.set_cons_succ]
        go_simp
        refine hK.out _ _ (fun _ => trivial) ?_
        clear hK K
        try simp only [Act.put, List.setIfInBounds_toArray, List.set_cons_zero, List.set_cons_succ]
        refine anyN_one (i := 7) (o := ({ dst := none, op := .store 24 (.tmp 19) (.tmp 15), type := 0, pos := "reader.go:117", after := #[{ on := 6, ground := .data }, { on := 2, ground := .data }, { on := 5, ground := .chain }, { on := 0, ground := .phase }, { on := 1, ground := .phase }, { on := 2, ground := .phase }, { on := 3, ground := .phase }, { on := 4, ground := .phase }, { on := 5, ground := .phase }, { on := 9, ground := .gcOnly .appendInPlace }], guard := none } : Oper)) (by kernel_rfl) rfl (fun K hK => ?_)
        try simp only [Act.put]
        go_simp
        refine hK.out _ _ (fun _ => trivial) ?_
        clear hK K
        try simp only [Act.put, List.setIfInBounds_toArray, List.set_cons_zero, List.set_cons_succ]
        refine anyN_done (by kernel_rfl) ?_ _
        go_wp2
        go_ret
        exact ⟨q, b, l', _, _, rfl, by have := FIN.out.1; rw [put5_set _ _ _ _ _ _ _ _ _ _ _ g1] at this; exact this, by have := FIN.out.2; rw [put5_set _ _ _ _ _ _ _ _ _ _ _ g1] at this; exact this, HX.out, HN.out⟩
end Go.Proofs.Ytmgjiipooffggaa
