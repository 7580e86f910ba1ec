/- The law on what may be, how deep it is, and its copy. -/
import Derived.Test.YtdolejafihgpmaaVd
import Derived.Test.YtdolejafihgpmaaRp
import Derived.Test.YtdolejafihgpmaaRr
namespace Go.Proofs.Ytdolejafihgpmaa
open Go.RowKit
attribute [local go_sem ↓] Go.wp_at_zero Go.wp_at_succ

set_option maxHeartbeats 1600000 in
theorem refCopy_full (w : World) (d : Nat) (x : At) (hx : x.In w d) : Calls Try.prog 21 #[x.v] w (CopiedPost w 13 (copyV 12 x.t)) := by
  have HX := Lib.hid hx
  clear hx
  go_enter Try.func21, Try.ntmps21
  go_upto_region 1 with fail
  generalize hW : World.alloc (World.alloc _ _) _ = W
  obtain ⟨k1, k2, hz, hb⟩ := cells2 _ _ _ _ _ _ _ _ _ _ _ _ hW
  have K2 := Lib.hid k2
  have HB := Lib.hid hb
  have hzz : w.heap.size + 1 < W.heap.size := by rw [hz]; omega
  obtain ⟨a0, a1, a2, a3, a4, _⟩ := k1
  clear hz hb hW k2
  go_wp2_with fail
  refine (rcopied_any 12 W d x 1 (by omega) (by omega) (HX.out.next HB.out)).mono ?_
  rintro e w1 ⟨q, hq, rfl, rq, hb1⟩
  obtain ⟨s0, s1, s2, s3, s4, p0, p1, p2, p3, p4, hblk⟩ := K2.out.below hb1 hzz
  have HR := Lib.hid (ret_box hblk (.int .i64 q.t.k) (.int .i64 q.t.n) (.string q.t.s) (.slice q.A q.t.l.length q.c) (.slice q.A' q.t.m.length q.c'))
  have RD := Lib.hid rq
  have HQ := Lib.hid hq
  have B1 := Lib.hid (bnext HB.out hb1)
  have S1 := Lib.hid HB.out.size
  clear rq hb1 hblk a0 a1 a2 a3 a4 hq
  go_wp2
  obtain ⟨F, hF, ⟨r0, r1, r2, r3, r4, _⟩, hk, hs, hbel⟩ := HR.out
  rw [← hF]
  clear hF
  exact bodyPost_ret (v := q.v) (by simp [results, Try.results21, go_sem, r0, r1, r2, r3, r4]) rfl ⟨q, HQ.out, rfl, by rw [hs]; exact Rd.imp (hk _ _ hzz) S1.out (Nat.le_refl _) (Nat.le_refl _) RD.out, hbel _ _ (by omega) B1.out⟩
def IsIn (t : V) : Value → World → Prop := fun x w => ∃ q : At, x = q.v ∧ q.t = t ∧ q.In w 13
theorem IsIn.stays (t : V) : Stays (IsIn t) := fun _ _ _ ⟨q, e, h, hi⟩ hb => ⟨q, e, h, hi.next hb⟩
def CopyAtPost (w : World) (t : V) (e : Ending) (w' : World) : Prop := ∃ q : At, q.t = t ∧ e = .returned q.v ∧ q.In w' 13 ∧ Below w.heap.size w w'
theorem refCopy_at (w : World) (d : Nat) (x : At) (hx : x.In w d) : Calls Try.prog 21 #[x.v] w (CopyAtPost w (copyV 12 x.t)) :=
  (refCopy_full w d x hx).mono fun _ _ ⟨q, h1, h2, h3, h4⟩ => ⟨q, h1, h2, Rd.more h3 (Nat.zero_le _) (Nat.le_refl _) (Nat.le_refl _), h4⟩
theorem refSame_at (w : World) (d : Nat) (x y : At) (hx : x.In w d) (hy : y.In w 13) : Calls Try.prog 20 #[x.v, y.v] w fun e w' => e = .returned (.bool (cmpV 12 x.t y.t == 0)) ∧ Below w.heap.size w w' :=
  refSame_any w d 13 x.t y.t _ _ _ _ _ _ _ _ hx hy
/-- A copy, in new memory. -/
def CopyMade (w : World) (t : V) (e : Ending) (w' : World) : Prop := ∃ q : At, q.t = t ∧ e = .returned q.v ∧ Rd w' w.heap.size w'.heap.size 13 q.t q.A q.c q.A' q.c' ∧ Mine w' q.A q.t.l.length ∧ Mine w' q.A' q.t.m.length ∧ Below w.heap.size w w'
theorem copy_made (w : World) (d : Nat) (x : At) (hx : x.In w d) : Calls Try.prog 15 #[x.v] w (CopyMade w (copyV 12 x.t)) :=
  (copy_any w d x.t _ _ _ _ hx).mono fun _ _ ⟨A, c, A', c', he, rd, m1, m2, hb⟩ => ⟨⟨copyV 12 x.t, A, c, A', c'⟩, rfl, he, rd, m1, m2, hb⟩

/-- A row of the copy's, that may be written over. -/
def Free (wr : World) (g1 g3 _lo4 : Nat) (A : Option Addr) (n : Nat) : Prop := 0 < n → ∃ b, A = some ⟨b, 0, none⟩ ∧ Blk wr b n ∧ g1 < b ∧ b < g3
structure Chk (w wr : World) (d g1 g3 g4 lo4 : Nat) (x c dd : At) : Prop where
  bel : Below w.heap.size w wr
  lo : w.heap.size ≤ g1
  l34 : g3 < lo4
  l44 : lo4 ≤ g4
  b1 : Bx wr g1 x
  b3 : Bx wr g3 c
  b4 : Bx wr g4 dd
  x0 : x.In w d
  dr : Rd wr lo4 wr.heap.size 13 dd.t dd.A dd.c dd.A' dd.c'
  fl : Free wr g1 g3 lo4 c.A c.t.l.length
  fm : Free wr g1 g3 lo4 c.A' c.t.m.length
theorem Free.next {a b : World} {g1 g3 lo4 : Nat} {A : Option Addr} {n : Nat} (h : Free a g1 g3 lo4 A n) (hb : Below a.heap.size a b) : Free b g1 g3 lo4 A n := fun h0 => by
  obtain ⟨z, e, h1, h2, h3⟩ := h h0
  exact ⟨z, e, Blk.next hb h1, h2, h3⟩
theorem Chk.next {w a b : World} {d g1 g3 g4 lo4 : Nat} {x c dd : At} (h : Chk w a d g1 g3 g4 lo4 x c dd) (hb : Below a.heap.size a b) : Chk w b d g1 g3 g4 lo4 x c dd :=
  ⟨bnext h.bel hb, h.lo, h.l34, h.l44, h.b1.next hb, h.b3.next hb, h.b4.next hb, h.x0, rd_grow h.dr hb, h.fl.next hb, h.fm.next hb⟩
theorem Chk.xin {w a : World} {d g1 g3 g4 lo4 : Nat} {x c dd : At} (h : Chk w a d g1 g3 g4 lo4 x c dd) : x.In a d := h.x0.next h.bel
theorem Chk.din {w a : World} {d g1 g3 g4 lo4 : Nat} {x c dd : At} (h : Chk w a d g1 g3 g4 lo4 x c dd) : dd.In a 13 := Rd.more h.dr (Nat.zero_le _) (Nat.le_refl _) (Nat.le_refl _)
theorem Free.set {a : World} {g1 g3 lo4 b : Nat} {A : Option Addr} {n : Nat} (h : Free a g1 g3 lo4 A n) (o : Nat) (u : Value) : Free (a.setCell ⟨b, o, none⟩ u) g1 g3 lo4 A n := fun h0 => by
  obtain ⟨z, e, h1, h2, h3⟩ := h h0
  exact ⟨z, e, h1.set _ _ rfl, h2, h3⟩
theorem Chk.set {w a : World} {d g1 g3 g4 lo4 b : Nat} {x c dd : At} (h : Chk w a d g1 g3 g4 lo4 x c dd) (h1 : g1 < b) (h3 : b < g3) (o : Nat) (u : Value) : Chk w (a.setCell ⟨b, o, none⟩ u) d g1 g3 g4 lo4 x c dd := by
  have far : ∀ k, k ≠ b → (a.setCell ⟨b, o, none⟩ u).heap[k]? = a.heap[k]? := fun k hk => Below.heap_setCell _ _ _ _ hk
  have hs : (a.setCell ⟨b, o, none⟩ u).heap.size = a.heap.size := by simp [World.setCell]
  have l34 := h.l34
  have l44 := h.l44
  have lo := h.lo
  exact ⟨h.bel.setCell (show w.heap.size ≤ b by omega) _, h.lo, h.l34, h.l44, Cell.kept h.b1 (far g1 (by omega)), Cell.kept h.b3 (far g3 (by omega)), Cell.kept h.b4 (far g4 (by omega)), h.x0,
    by rw [hs]; exact Rd.imp (fun k hk _ => far k (by omega)) (Nat.le_refl _) (Nat.le_refl _) (Nat.le_refl _) h.dr, h.fl.set _ _, h.fm.set _ _⟩
theorem free_of {w0 w1 w2 : World} {lo4 : Nat} {n d c : Nat} {A : Option Addr} {l : List V} (hn : l.length = n) (m : Mine w1 A n) (r : Rw w1 w0.heap.size w1.heap.size d A c l) (hb : Below w1.heap.size w1 w2) {g1 g3 : Nat} (hg1 : g1 < w0.heap.size) (hg3 : w1.heap.size ≤ g3) : Free w2 g1 g3 lo4 A n := fun h0 => by
  obtain ⟨z, e, hk⟩ := m h0
  obtain ⟨b, off, e', h1, h2, _⟩ := r.at_ (by omega)
  rw [e] at e'
  injection e' with e'
  injection e' with e1
  subst e1
  exact ⟨z, e, hk.below hb h2, by omega, by omega⟩
theorem lots1 (w : World) (d : Nat) (x : At) (hx : x.In w d) : Calls Try.prog 10 #[.slice (some ⟨w.heap.size, 0, none⟩) 1 1] (w.alloc (.cells #[.int .i64 x.t.k, .int .i64 x.t.n, .string x.t.s, .slice x.A x.t.l.length x.c, .slice x.A' x.t.m.length x.c'] 24)) (fun e w' => BoolPost (w.alloc (.cells (flatA [x]).toArray 24)) e w') :=
  lots_row w d [x] (by simpa using hx) (by simp)

def c5D : Nat → Tmp := fun j => [15, 16, 17, 18, 19, 20, 21, 22, 23, 24, 25, 26, 27, 28, 29, 30, 31, 32, 33].getD j 0
def c5E : Nat → List Nat := fun j => [[], [0], [], [2], [1, 3], [4], [5], [5, 6], [5], [5, 8], [5, 7, 9], [5, 10], [11], [12], [12], [12, 14], [12, 13, 15], [12, 16], [12, 17]].getD j []
def c15D : Nat → Tmp := fun j => [58, 59, 60, 61, 62, 63, 64, 2].getD j 0
def c15E : Nat → List Nat := fun j => [[], [], [1], [0, 2], [3], [4], [4, 5], [6]].getD j []

set_option maxHeartbeats 8000000 in
set_option maxRecDepth 100000 in
theorem checks_law (w : World) (d : Nat) (x : At) (hx : x.In w d) : Calls Try.prog 4 #[x.v] w fun e w' => e = .returned (.bool true) ∧ Below w.heap.size w w' := by
  have HX := Lib.hid hx
  clear hx
  go_enter Try.func4, Try.ntmps4
  go_upto_region 1 with fail
  have bx := Bx.new w x
  generalize hW : World.alloc w _ = W at bx
  have HB := Lib.hid (show Below w.heap.size w W by rw [← hW]; exact below_new _ _)
  have hgW : w.heap.size < W.heap.size := by rw [← hW]; simp
  clear hW
  have BX := Lib.hid bx
  obtain ⟨a0, a1, a2, a3, a4, _⟩ := bx
  go_wp2_with fail
  refine (lots1 W d x (HX.out.next HB.out)).mono ?_
  rintro e w1 ⟨bb, rfl, hb1⟩
  have bl := bnext (below_new W (.cells #[.int .i64 x.t.k, .int .i64 x.t.n, .string x.t.s, .slice x.A x.t.l.length x.c, .slice x.A' x.t.m.length x.c'] 24)) hb1
  have BX1 := Lib.hid (BX.out.next bl)
  have B1 := Lib.hid (bnext HB.out bl)
  have hg1 : w.heap.size < w1.heap.size := Nat.lt_of_lt_of_le hgW bl.size
  clear hb1 bl a0 a1 a2 a3 a4 BX HB hgW
  cases bb
  · obtain ⟨a0, a1, a2, a3, a4, _⟩ := BX1.out
    go_wp2_with fail
    refine (copy_made w1 d x (HX.out.next B1.out)).mono ?_
    rintro e w2 ⟨c, hc, rfl, rc, mc1, mc2, hb2⟩
    have RC := Lib.hid rc
    have MC1 := Lib.hid mc1
    have MC2 := Lib.hid mc2
    have HCT := Lib.hid hc
    have nw := below_new w2 (.cells #[.int .i64 c.t.k, .int .i64 c.t.n, .string c.t.s, .slice c.A c.t.l.length c.c, .slice c.A' c.t.m.length c.c'] 24)
    have bl := bnext hb2 nw
    have B2 := Lib.hid (bnext B1.out bl)
    have BX2 := Lib.hid (BX1.out.next bl)
    have b3 := Bx.new w2 c
    have NW2 := Lib.hid nw
    have hs2 : w1.heap.size ≤ w2.heap.size := hb2.size
    clear a0 a1 a2 a3 a4 rc mc1 mc2 hc hb2 bl nw
    go_upto_region 4 with fail
    generalize hW : World.alloc w2 _ = W2 at b3 B2 BX2 NW2
    have hz2 : w2.heap.size < W2.heap.size := by rw [← hW]; simp
    clear hW
    have BC2 := Lib.hid b3
    obtain ⟨a0, a1, a2, a3, a4, _⟩ := BX2.out
    clear b3
    go_wp2_with fail
    refine (copy_made W2 d x (HX.out.next B2.out)).mono ?_
    rintro e w3 ⟨dd, hdd, rfl, rdd, _, _, hb3⟩
    have nw := below_new w3 (.cells #[.int .i64 dd.t.k, .int .i64 dd.t.n, .string dd.t.s, .slice dd.A dd.t.l.length dd.c, .slice dd.A' dd.t.m.length dd.c'] 24)
    have bl := bnext hb3 nw
    have HDT := Lib.hid hdd
    have hcr := rd_grow (rd_grow (rd_grow RC.out NW2.out) hb3) nw
    have CHK := Lib.hid (show Chk w _ d w.heap.size w2.heap.size w3.heap.size W2.heap.size x c dd from ⟨bnext B2.out bl, Nat.le_refl _, hz2, hb3.size, BX2.out.next bl, BC2.out.next bl, Bx.new w3 dd, HX.out, rd_grow rdd nw,
      free_of rfl MC1.out RC.out.2.1 (bnext NW2.out bl) hg1 (Nat.le_refl _), free_of rfl MC2.out RC.out.2.2 (bnext NW2.out bl) hg1 (Nat.le_refl _)⟩)
    have HCR := Lib.hid hcr
    clear a0 a1 a2 a3 a4 rdd hdd hb3 bl nw hcr MC1 MC2 RC NW2 BX2 BC2 B2
    go_upto_region 5 with fail
    generalize World.alloc w3 _ = X at CHK HCR
    generalize w3.heap.size = g4 at CHK
    generalize W2.heap.size = lo4 at CHK hz2
    generalize w2.heap.size = g3 at CHK
    generalize hgg : w.heap.size = g1 at CHK
    clear hgg
    have hbl := HCR.out.2.1.big
    have hbm := HCR.out.2.2.big
    go_wp2_with fail
    refine region_phase_all [0, 1, 2, 3, 4, 5, 6, 7, 8, 9, 10, 11, 12, 13, 14, 15, 16, 17, 18] c5D c5E (fun w' => Chk w w' d g1 g3 g4 lo4 x c dd ∧ Below X.heap.size X w') (saidOf [Is x.v, Is (.int .i64 (errI (okV 12 x.t))), Is x.v, Is (.int .i64 (errI (okV 12 x.t))), Is (.bool false), Is (.bool false), Is x.v, Is (.int .i64 ((depV 12 x.t : Int))), Is x.v, Is (.int .i64 ((depV 12 x.t : Int))), Is (.bool false), Is (.bool false), Is (.bool false), Is c.v, Is x.v, IsIn (copyV 12 x.t), Is (.bool true), Is (.bool false), Is (.bool false)]) 65 rfl (by kernel_rfl) (by kernel_rfl) (by kernel_rfl) (fun _ _ h hb => ⟨h.1.next hb, bnext h.2 hb⟩) (stays_said _ (stays_cons (Is.stays _) (stays_cons (Is.stays _) (stays_cons (Is.stays _) (stays_cons (Is.stays _) (stays_cons (Is.stays _) (stays_cons (Is.stays _) (stays_cons (Is.stays _) (stays_cons (Is.stays _) (stays_cons (Is.stays _) (stays_cons (Is.stays _) (stays_cons (Is.stays _) (stays_cons (Is.stays _) (stays_cons (Is.stays _) (stays_cons (Is.stays _) (stays_cons (Is.stays _) (stays_cons (IsIn.stays _) (stays_cons (Is.stays _) (stays_cons (Is.stays _) (stays_cons (Is.stays _) stays_nil)))))))))))))))))))) ⟨CHK.out.next (below_drewN _ _ 1), below_drewN _ _ 1⟩ (by kernel_rfl) ?_ ?_
    · skip
      refine owes_cons (Owes.mk (o := ({ dst := some 15, op := .load 24 (.tmp 1), type := 24, pos := "law.go:39", after := #[], guard := none } : Oper)) rfl (fun v wk hj hD K hK => ?_)) ?_
      · simp only [c5D, c5E, putAll, Act.put, List.getD_cons_zero, List.setIfInBounds_toArray, List.set_cons_zero, List.set_cons_succ] at hK ⊢
        obtain ⟨q0, q1, q2, q3, q4, _⟩ := hj.1.b1
        go_simp
        exact hK.out _ _ (Below.refl _ _) rfl
      refine owes_cons (Owes.mk (o := ({ dst := some 16, op := .call { callee := .value (.func 16), args := #[.tmp 15], argTypes := #[24] }, type := 30, pos := "law.go:39", after := #[{ on := 0, ground := .data }], guard := none } : Oper)) rfl (fun v wk hj hD K hK => ?_)) ?_
      · have h0 : v 0 = x.v := hD 0 (by decide)
        simp only [c5D, c5E, putAll, Act.put, List.getD_cons_succ, List.getD_cons_zero, List.setIfInBounds_toArray, List.set_cons_zero, List.set_cons_succ, h0] at hK ⊢
        go_simp
        refine (check_at _ _ x hj.1.xin).mono ?_
        rintro e w2 ⟨rfl, hb⟩
        exact hK.out _ _ hb rfl
      refine owes_cons (Owes.mk (o := ({ dst := some 17, op := .load 24 (.tmp 1), type := 24, pos := "law.go:39", after := #[], guard := none } : Oper)) rfl (fun v wk hj hD K hK => ?_)) ?_
      · simp only [c5D, c5E, putAll, Act.put, List.getD_cons_succ, List.getD_cons_zero, List.setIfInBounds_toArray, List.set_cons_zero, List.set_cons_succ] at hK ⊢
        obtain ⟨q0, q1, q2, q3, q4, _⟩ := hj.1.b1
        go_simp
        exact hK.out _ _ (Below.refl _ _) rfl
      refine owes_cons (Owes.mk (o := ({ dst := some 18, op := .call { callee := .value (.func 17), args := #[.tmp 17], argTypes := #[24] }, type := 3, pos := "law.go:39", after := #[{ on := 2, ground := .data }, { on := 1, ground := .chain }], guard := none } : Oper)) rfl (fun v wk hj hD K hK => ?_)) ?_
      · have h2 : v 2 = x.v := hD 2 (by decide)
        simp only [c5D, c5E, putAll, Act.put, List.getD_cons_succ, List.getD_cons_zero, List.setIfInBounds_toArray, List.set_cons_zero, List.set_cons_succ, h2] at hK ⊢
        go_simp
        refine (refCheck_at _ _ x hj.1.xin).mono ?_
        rintro e w2 ⟨rfl, hb⟩
        exact hK.out _ _ hb rfl
      refine owes_cons (Owes.mk (o := ({ dst := some 19, op := .binOp .neq 3 (.tmp 16) (.tmp 18) 3, type := 4, pos := "law.go:39", after := #[{ on := 1, ground := .data }, { on := 3, ground := .data }], guard := none } : Oper)) rfl (fun v wk hj hD K hK => ?_)) ?_
      · have h1 : v 1 = (.int .i64 (errI (okV 12 x.t))) := hD 1 (by decide)
        have h3 : v 3 = (.int .i64 (errI (okV 12 x.t))) := hD 3 (by decide)
        simp only [c5D, c5E, putAll, Act.put, List.getD_cons_succ, List.getD_cons_zero, List.setIfInBounds_toArray, List.set_cons_zero, List.set_cons_succ, h1, h3] at hK ⊢
        go_simp
        exact hK.out _ _ (Below.refl _ _) rfl
      refine owes_cons (Owes.mk (o := ({ dst := some 20, op := .move (.tmp 19), type := 4, pos := "law.go:39", after := #[{ on := 4, ground := .data }, { on := 3, ground := .chain }], guard := none } : Oper)) rfl (fun v wk hj hD K hK => ?_)) ?_
      · have h4 : v 4 = (.bool false) := hD 4 (by decide)
        simp only [c5D, c5E, putAll, Act.put, List.getD_cons_succ, List.getD_cons_zero, List.setIfInBounds_toArray, List.set_cons_zero, List.set_cons_succ, h4] at hK ⊢
        go_simp
        exact hK.out _ _ (Below.refl _ _) rfl
      refine owes_cons (Owes.mk (o := ({ dst := some 21, op := .load 24 (.tmp 1), type := 24, pos := "law.go:39", after := #[{ on := 5, ground := .guard }], guard := some (5, false) } : Oper)) rfl (fun v wk hj hD K hK => ?_)) ?_
      · have h5 : v 5 = (.bool false) := hD 5 (by decide)
        simp only [c5D, c5E, putAll, Act.put, List.getD_cons_succ, List.getD_cons_zero, List.setIfInBounds_toArray, List.set_cons_zero, List.set_cons_succ, h5] at hK ⊢
        obtain ⟨q0, q1, q2, q3, q4, _⟩ := hj.1.b1
        go_simp
        exact hK.out _ _ (Below.refl _ _) rfl
      refine owes_cons (Owes.mk (o := ({ dst := some 22, op := .call { callee := .value (.func 18), args := #[.tmp 21], argTypes := #[24] }, type := 3, pos := "law.go:39", after := #[{ on := 6, ground := .data }, { on := 5, ground := .chain }, { on := 5, ground := .guard }], guard := some (5, false) } : Oper)) rfl (fun v wk hj hD K hK => ?_)) ?_
      · have h5 : v 5 = (.bool false) := hD 5 (by decide)
        have h6 : v 6 = x.v := hD 6 (by decide)
        simp only [c5D, c5E, putAll, Act.put, List.getD_cons_succ, List.getD_cons_zero, List.setIfInBounds_toArray, List.set_cons_zero, List.set_cons_succ, h5, h6] at hK ⊢
        go_simp
        refine (depth_at _ _ x hj.1.xin).mono ?_
        rintro e w2 ⟨rfl, hb⟩
        exact hK.out _ _ hb rfl
      refine owes_cons (Owes.mk (o := ({ dst := some 23, op := .load 24 (.tmp 1), type := 24, pos := "law.go:39", after := #[{ on := 5, ground := .guard }], guard := some (5, false) } : Oper)) rfl (fun v wk hj hD K hK => ?_)) ?_
      · have h5 : v 5 = (.bool false) := hD 5 (by decide)
        simp only [c5D, c5E, putAll, Act.put, List.getD_cons_succ, List.getD_cons_zero, List.setIfInBounds_toArray, List.set_cons_zero, List.set_cons_succ, h5] at hK ⊢
        obtain ⟨q0, q1, q2, q3, q4, _⟩ := hj.1.b1
        go_simp
        exact hK.out _ _ (Below.refl _ _) rfl
      refine owes_cons (Owes.mk (o := ({ dst := some 24, op := .call { callee := .value (.func 19), args := #[.tmp 23], argTypes := #[24] }, type := 3, pos := "law.go:39", after := #[{ on := 8, ground := .data }, { on := 7, ground := .chain }, { on := 5, ground := .guard }], guard := some (5, false) } : Oper)) rfl (fun v wk hj hD K hK => ?_)) ?_
      · have h5 : v 5 = (.bool false) := hD 5 (by decide)
        have h8 : v 8 = x.v := hD 8 (by decide)
        simp only [c5D, c5E, putAll, Act.put, List.getD_cons_succ, List.getD_cons_zero, List.setIfInBounds_toArray, List.set_cons_zero, List.set_cons_succ, h5, h8] at hK ⊢
        go_simp
        refine (refDepth_at _ _ x hj.1.xin).mono ?_
        rintro e w2 ⟨rfl, hb⟩
        exact hK.out _ _ hb rfl
      refine owes_cons (Owes.mk (o := ({ dst := some 25, op := .binOp .neq 3 (.tmp 22) (.tmp 24) 3, type := 4, pos := "law.go:39", after := #[{ on := 7, ground := .data }, { on := 9, ground := .data }, { on := 5, ground := .guard }], guard := some (5, false) } : Oper)) rfl (fun v wk hj hD K hK => ?_)) ?_
      · have h5 : v 5 = (.bool false) := hD 5 (by decide)
        have h7 : v 7 = (.int .i64 ((depV 12 x.t : Int))) := hD 7 (by decide)
        have h9 : v 9 = (.int .i64 ((depV 12 x.t : Int))) := hD 9 (by decide)
        simp only [c5D, c5E, putAll, Act.put, List.getD_cons_succ, List.getD_cons_zero, List.setIfInBounds_toArray, List.set_cons_zero, List.set_cons_succ, h5, h7, h9] at hK ⊢
        go_simp
        exact hK.out _ _ (Below.refl _ _) rfl
      refine owes_cons (Owes.mk (o := ({ dst := some 26, op := .pick (.tmp 20) (.const (.bool true)) (.tmp 25), type := 4, pos := "law.go:39", after := #[{ on := 5, ground := .data }, { on := 10, ground := .data }], guard := none } : Oper)) rfl (fun v wk hj hD K hK => ?_)) ?_
      · have h5 : v 5 = (.bool false) := hD 5 (by decide)
        have h10 : v 10 = (.bool false) := hD 10 (by decide)
        simp only [c5D, c5E, putAll, Act.put, List.getD_cons_succ, List.getD_cons_zero, List.setIfInBounds_toArray, List.set_cons_zero, List.set_cons_succ, h5, h10] at hK ⊢
        go_simp
        exact hK.out _ _ (Below.refl _ _) rfl
      refine owes_cons (Owes.mk (o := ({ dst := some 27, op := .move (.tmp 26), type := 4, pos := "law.go:39", after := #[{ on := 11, ground := .data }, { on := 9, ground := .chain }], guard := none } : Oper)) rfl (fun v wk hj hD K hK => ?_)) ?_
      · have h11 : v 11 = (.bool false) := hD 11 (by decide)
        simp only [c5D, c5E, putAll, Act.put, List.getD_cons_succ, List.getD_cons_zero, List.setIfInBounds_toArray, List.set_cons_zero, List.set_cons_succ, h11] at hK ⊢
        go_simp
        exact hK.out _ _ (Below.refl _ _) rfl
      refine owes_cons (Owes.mk (o := ({ dst := some 28, op := .load 24 (.tmp 3), type := 24, pos := "law.go:39", after := #[{ on := 12, ground := .guard }], guard := some (12, false) } : Oper)) rfl (fun v wk hj hD K hK => ?_)) ?_
      · have h12 : v 12 = (.bool false) := hD 12 (by decide)
        simp only [c5D, c5E, putAll, Act.put, List.getD_cons_succ, List.getD_cons_zero, List.setIfInBounds_toArray, List.set_cons_zero, List.set_cons_succ, h12] at hK ⊢
        obtain ⟨q0, q1, q2, q3, q4, _⟩ := hj.1.b3
        go_simp
        exact hK.out _ _ (Below.refl _ _) rfl
      refine owes_cons (Owes.mk (o := ({ dst := some 29, op := .load 24 (.tmp 1), type := 24, pos := "law.go:39", after := #[{ on := 12, ground := .guard }], guard := some (12, false) } : Oper)) rfl (fun v wk hj hD K hK => ?_)) ?_
      · have h12 : v 12 = (.bool false) := hD 12 (by decide)
        simp only [c5D, c5E, putAll, Act.put, List.getD_cons_succ, List.getD_cons_zero, List.setIfInBounds_toArray, List.set_cons_zero, List.set_cons_succ, h12] at hK ⊢
        obtain ⟨q0, q1, q2, q3, q4, _⟩ := hj.1.b1
        go_simp
        exact hK.out _ _ (Below.refl _ _) rfl
      refine owes_cons (Owes.mk (o := ({ dst := some 30, op := .call { callee := .value (.func 21), args := #[.tmp 29], argTypes := #[24] }, type := 24, pos := "law.go:39", after := #[{ on := 14, ground := .data }, { on := 12, ground := .chain }, { on := 12, ground := .guard }], guard := some (12, false) } : Oper)) rfl (fun v wk hj hD K hK => ?_)) ?_
      · have h12 : v 12 = (.bool false) := hD 12 (by decide)
        have h14 : v 14 = x.v := hD 14 (by decide)
        simp only [c5D, c5E, putAll, Act.put, List.getD_cons_succ, List.getD_cons_zero, List.setIfInBounds_toArray, List.set_cons_zero, List.set_cons_succ, h12, h14] at hK ⊢
        go_simp
        refine (refCopy_at _ _ x hj.1.xin).mono ?_
        rintro e w2 ⟨q, hq, rfl, iq, hb⟩
        exact hK.out _ _ hb ⟨q, rfl, hq, iq⟩
      refine owes_cons (Owes.mk (o := ({ dst := some 31, op := .call { callee := .value (.func 20), args := #[.tmp 28, .tmp 30], argTypes := #[24, 24] }, type := 4, pos := "law.go:39", after := #[{ on := 13, ground := .data }, { on := 15, ground := .data }, { on := 15, ground := .chain }, { on := 12, ground := .guard }], guard := some (12, false) } : Oper)) rfl (fun v wk hj hD K hK => ?_)) ?_
      · have h12 : v 12 = (.bool false) := hD 12 (by decide)
        have h13 : v 13 = c.v := hD 13 (by decide)
        obtain ⟨q15, h15, e15, i15⟩ : IsIn (copyV 12 x.t) (v 15) wk := hD 15 (by decide)
        have E15 := Lib.hid e15
        clear e15
        simp only [c5D, c5E, putAll, Act.put, List.getD_cons_succ, List.getD_cons_zero, List.setIfInBounds_toArray, List.set_cons_zero, List.set_cons_succ, h12, h13, h15] at hK ⊢
        go_simp
        refine (refSame_at _ 13 c q15 (Rd.more (rd_grow HCR.out hj.2) (Nat.zero_le _) (Nat.le_refl _) (Nat.le_refl _)) i15).mono ?_
        rintro e w2 ⟨rfl, hb⟩
        exact hK.out _ _ hb (show Value.bool _ = _ by rw [E15.out, HCT.out, (ord_cmpV 12).refl]; rfl)
      refine owes_cons (Owes.mk (o := ({ dst := some 32, op := .unOp Go.UnOp.not 4 (.tmp 31), type := 4, pos := "law.go:39", after := #[{ on := 16, ground := .data }, { on := 12, ground := .guard }], guard := some (12, false) } : Oper)) rfl (fun v wk hj hD K hK => ?_)) ?_
      · have h12 : v 12 = (.bool false) := hD 12 (by decide)
        have h16 : v 16 = (.bool true) := hD 16 (by decide)
        simp only [c5D, c5E, putAll, Act.put, List.getD_cons_succ, List.getD_cons_zero, List.setIfInBounds_toArray, List.set_cons_zero, List.set_cons_succ, h12, h16] at hK ⊢
        go_simp
        exact hK.out _ _ (Below.refl _ _) rfl
      refine owes_cons (Owes.mk (o := ({ dst := some 33, op := .pick (.tmp 27) (.const (.bool true)) (.tmp 32), type := 4, pos := "law.go:39", after := #[{ on := 12, ground := .data }, { on := 17, ground := .data }], guard := none } : Oper)) rfl (fun v wk hj hD K hK => ?_)) ?_
      · have h12 : v 12 = (.bool false) := hD 12 (by decide)
        have h17 : v 17 = (.bool false) := hD 17 (by decide)
        simp only [c5D, c5E, putAll, Act.put, List.getD_cons_succ, List.getD_cons_zero, List.setIfInBounds_toArray, List.set_cons_zero, List.set_cons_succ, h12, h17] at hK ⊢
        go_simp
        exact hK.out _ _ (Below.refl _ _) rfl
      exact owes_nil
    · intro v wf hj hr
      have hl : v 18 = (.bool false) := hr 18 (by decide)
      simp only [c5D, putAll, Act.put, List.getD_cons_succ, List.getD_cons_zero, List.setIfInBounds_toArray, List.set_cons_zero, List.set_cons_succ, hl]
      clear hl hr
      have CC := Lib.hid hj.1
      clear hj
      go_wp2_with fail
      go_loopw [5] (fun i wr => ∃ k : Nat, k ≤ c.t.l.length ∧ i = .int .i64 k ∧ Hid (Chk w wr d g1 g3 g4 lo4 x c dd)) (fun i _ => c.t.l.length - (intOf i).toNat)
      case atStart => exact ⟨0, by omega, rfl, CC⟩
      case round =>
        obtain ⟨k, hk, rfl, CC⟩ := hrel
        obtain ⟨q0, q1, q2, q3, q4, _⟩ := CC.out.b3
        by_cases hlt : k < c.t.l.length
        · obtain ⟨gb, eA, hbk, h1, h3⟩ := CC.out.fl (by omega)
          rw [eA] at q3
          obtain ⟨v1, hv1⟩ := hbk.cell (i := k * 5) (by omega)
          have hfz := hbk.frozen (k * 5)
          have NX : Hid (∀ u, Chk w (wr.setCell ⟨gb, k * 5, none⟩ u) d g1 g3 g4 lo4 x c dd) := Lib.hid (fun u => CC.out.set h1 h3 _ u)
          clear eA hbk
          go_wp2
          go_roundw
          case rel => exact ⟨k + 1, by omega, by go_num, Lib.hid (NX.out _)⟩
          case measure => simp [intOf]; omega
        · obtain rfl : k = c.t.l.length := by omega
          go_wp2_with fail
          go_loopw [6] (fun i wr => ∃ k : Nat, k ≤ c.t.m.length ∧ i = .int .i64 k ∧ Hid (Chk w wr d g1 g3 g4 lo4 x c dd)) (fun i _ => c.t.m.length - (intOf i).toNat)
          case atStart => exact ⟨0, by omega, rfl, CC⟩
          case round =>
            obtain ⟨k, hk, rfl, CC⟩ := hrel
            obtain ⟨q0, q1, q2, q3, q4, _⟩ := CC.out.b3
            by_cases hlt : k < c.t.m.length
            · obtain ⟨gb, eA, hbk, h1, h3⟩ := CC.out.fm (by omega)
              rw [eA] at q4
              obtain ⟨v1, hv1⟩ := hbk.cell (i := k * 5) (by omega)
              have hfz := hbk.frozen (k * 5)
              have NX : Hid (∀ u, Chk w (wr.setCell ⟨gb, k * 5, none⟩ u) d g1 g3 g4 lo4 x c dd) := Lib.hid (fun u => CC.out.set h1 h3 _ u)
              clear eA hbk
              go_wp2
              go_roundw
              case rel => exact ⟨k + 1, by omega, by go_num, Lib.hid (NX.out _)⟩
              case measure => simp [intOf]; omega
            · obtain rfl : k = c.t.m.length := by omega
              go_wp2_with fail
              clear q0 q1 q2 q3 q4
              refine region_phase_all [0, 1, 2, 3, 4, 5, 6, 7] c15D c15E (fun w' => Chk w w' d g1 g3 g4 lo4 x c dd) (saidOf [Is dd.v, Is x.v, IsIn (copyV 12 x.t), Is (.bool true), Is (.bool true), Is (.bool true), Is (.bool true), Is (.bool true)]) 65 rfl (by kernel_rfl) (by kernel_rfl) (by kernel_rfl) (fun _ _ h hb => h.next hb) (stays_said _ (stays_cons (Is.stays _) (stays_cons (Is.stays _) (stays_cons (IsIn.stays _) (stays_cons (Is.stays _) (stays_cons (Is.stays _) (stays_cons (Is.stays _) (stays_cons (Is.stays _) (stays_cons (Is.stays _) stays_nil))))))))) (CC.out.next (below_drewN _ _ 1)) (by kernel_rfl) ?_ ?_
              · skip
                refine owes_cons (Owes.mk (o := ({ dst := some 58, op := .load 24 (.tmp 4), type := 24, pos := "law.go:48", after := #[], guard := none } : Oper)) rfl (fun v wk hj hD K hK => ?_)) ?_
                · simp only [c15D, c15E, putAll, Act.put, List.getD_cons_zero, List.setIfInBounds_toArray, List.set_cons_zero, List.set_cons_succ] at hK ⊢
                  obtain ⟨q0, q1, q2, q3, q4, _⟩ := hj.b4
                  go_simp
                  exact hK.out _ _ (Below.refl _ _) rfl
                refine owes_cons (Owes.mk (o := ({ dst := some 59, op := .load 24 (.tmp 1), type := 24, pos := "law.go:48", after := #[], guard := none } : Oper)) rfl (fun v wk hj hD K hK => ?_)) ?_
                · simp only [c15D, c15E, putAll, Act.put, List.getD_cons_succ, List.getD_cons_zero, List.setIfInBounds_toArray, List.set_cons_zero, List.set_cons_succ] at hK ⊢
                  obtain ⟨q0, q1, q2, q3, q4, _⟩ := hj.b1
                  go_simp
                  exact hK.out _ _ (Below.refl _ _) rfl
                refine owes_cons (Owes.mk (o := ({ dst := some 60, op := .call { callee := .value (.func 21), args := #[.tmp 59], argTypes := #[24] }, type := 24, pos := "law.go:48", after := #[{ on := 1, ground := .data }], guard := none } : Oper)) rfl (fun v wk hj hD K hK => ?_)) ?_
                · have h1 : v 1 = x.v := hD 1 (by decide)
                  simp only [c15D, c15E, putAll, Act.put, List.getD_cons_succ, List.getD_cons_zero, List.setIfInBounds_toArray, List.set_cons_zero, List.set_cons_succ, h1] at hK ⊢
                  go_simp
                  refine (refCopy_at _ _ x hj.xin).mono ?_
                  rintro e w2 ⟨q, hq, rfl, iq, hb⟩
                  exact hK.out _ _ hb ⟨q, rfl, hq, iq⟩
                refine owes_cons (Owes.mk (o := ({ dst := some 61, op := .call { callee := .value (.func 20), args := #[.tmp 58, .tmp 60], argTypes := #[24, 24] }, type := 4, pos := "law.go:48", after := #[{ on := 0, ground := .data }, { on := 2, ground := .data }, { on := 2, ground := .chain }], guard := none } : Oper)) rfl (fun v wk hj hD K hK => ?_)) ?_
                · have h0 : v 0 = dd.v := hD 0 (by decide)
                  obtain ⟨q2, h2, e2, i2⟩ : IsIn (copyV 12 x.t) (v 2) wk := hD 2 (by decide)
                  have E2 := Lib.hid e2
                  clear e2
                  simp only [c15D, c15E, putAll, Act.put, List.getD_cons_succ, List.getD_cons_zero, List.setIfInBounds_toArray, List.set_cons_zero, List.set_cons_succ, h0, h2] at hK ⊢
                  go_simp
                  refine (refSame_at _ 13 dd q2 hj.din i2).mono ?_
                  rintro e w2 ⟨rfl, hb⟩
                  exact hK.out _ _ hb (show Value.bool _ = _ by rw [E2.out, HDT.out, (ord_cmpV 12).refl]; rfl)
                refine owes_cons (Owes.mk (o := ({ dst := some 62, op := .move (.tmp 61), type := 4, pos := "law.go:48", after := #[{ on := 3, ground := .data }, { on := 3, ground := .chain }], guard := none } : Oper)) rfl (fun v wk hj hD K hK => ?_)) ?_
                · have h3 : v 3 = (.bool true) := hD 3 (by decide)
                  simp only [c15D, c15E, putAll, Act.put, List.getD_cons_succ, List.getD_cons_zero, List.setIfInBounds_toArray, List.set_cons_zero, List.set_cons_succ, h3] at hK ⊢
                  go_simp
                  exact hK.out _ _ (Below.refl _ _) rfl
                refine owes_cons (Owes.mk (o := ({ dst := some 63, op := .call { callee := .value (.func 11), args := #[], argTypes := #[] }, type := 4, pos := "law.go:48", after := #[{ on := 4, ground := .chain }, { on := 4, ground := .guard }], guard := some (4, true) } : Oper)) rfl (fun v wk hj hD K hK => ?_)) ?_
                · have h4 : v 4 = (.bool true) := hD 4 (by decide)
                  simp only [c15D, c15E, putAll, Act.put, List.getD_cons_succ, List.getD_cons_zero, List.setIfInBounds_toArray, List.set_cons_zero, List.set_cons_succ, h4] at hK ⊢
                  go_simp
                  refine (known_any _).mono ?_
                  rintro e w2 ⟨rfl, hb⟩
                  exact hK.out _ _ hb rfl
                refine owes_cons (Owes.mk (o := ({ dst := some 64, op := .pick (.tmp 62) (.tmp 63) (.const (.bool false)), type := 4, pos := "law.go:48", after := #[{ on := 4, ground := .data }, { on := 5, ground := .data }], guard := none } : Oper)) rfl (fun v wk hj hD K hK => ?_)) ?_
                · have h4 : v 4 = (.bool true) := hD 4 (by decide)
                  have h5 : v 5 = (.bool true) := hD 5 (by decide)
                  simp only [c15D, c15E, putAll, Act.put, List.getD_cons_succ, List.getD_cons_zero, List.setIfInBounds_toArray, List.set_cons_zero, List.set_cons_succ, h4, h5] at hK ⊢
                  go_simp
                  exact hK.out _ _ (Below.refl _ _) rfl
                refine owes_cons (Owes.mk (o := ({ dst := some 2, op := .assign (.tmp 64), type := 4, pos := "law.go:48", after := #[{ on := 6, ground := .data }, { on := 5, ground := .chain }, { on := 0, ground := .phase }, { on := 1, ground := .phase }, { on := 2, ground := .phase }, { on := 3, ground := .phase }, { on := 4, ground := .phase }, { on := 5, ground := .phase }, { on := 6, ground := .phase }], guard := none } : Oper)) rfl (fun v wk hj hD K hK => ?_)) ?_
                · have h6 : v 6 = (.bool true) := hD 6 (by decide)
                  simp only [c15D, c15E, putAll, Act.put, List.getD_cons_succ, List.getD_cons_zero, List.setIfInBounds_toArray, List.set_cons_zero, List.set_cons_succ, h6] at hK ⊢
                  go_simp
                  exact hK.out _ _ (Below.refl _ _) rfl
                exact owes_nil
              · intro v wf hj hr
                have hl : v 7 = (.bool true) := hr 7 (by decide)
                simp only [c15D, putAll, Act.put, List.getD_cons_succ, List.getD_cons_zero, List.setIfInBounds_toArray, List.set_cons_zero, List.set_cons_succ, hl]
                clear hl hr
                go_wp2_with fail
                go_ret
                exact ⟨rfl, hj.bel⟩
  · go_wp2_with fail
    refine (known_any _).mono ?_
    rintro e w2 ⟨rfl, hb2⟩
    go_wp2
    go_ret
    exact ⟨rfl, bnext B1.out hb2⟩
end Go.Proofs.Ytdolejafihgpmaa
