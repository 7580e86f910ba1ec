/- Carried over from an earlier seat. -/
import Derived.Test.YtiiopbcihieblaaGreatDoorPE
import Derived.IntWalk
namespace Go.Proofs.YtiiopbcihieblaaGreatDoor
set_option maxRecDepth 100000
set_option maxRecDepth 100000
set_option maxRecDepth 100000
open Go.RowKit Go.Sort

/-- The copy of a predicate, r levels above the last one. -/
def copyP : Nat → P → P
  | 0, t => .mk t.k [] []
  | r + 1, t => .mk t.k (t.v.map (copyV 12)) (t.p.map (copyP r))

/-- A box of one predicate that is the call's own. -/
structure CellP (w : World) (g : Nat) (v0 v1 v2 : Value) : Prop where
  c0 : w.cell? ⟨g, 0, none⟩ = some v0
  c1 : w.cell? ⟨g, 1, none⟩ = some v1
  c2 : w.cell? ⟨g, 2, none⟩ = some v2
  f0 : w.frozen? ⟨g, 0, none⟩ = false
  f1 : w.frozen? ⟨g, 1, none⟩ = false
  f2 : w.frozen? ⟨g, 2, none⟩ = false
  blk : BlkP w g 1
theorem CellP.new (w : World) (v0 v1 v2 : Value) : CellP (w.alloc (.cells #[v0, v1, v2] 42)) w.heap.size v0 v1 v2 := by
  have hb : (w.alloc (.cells #[v0, v1, v2] 42)).heap[w.heap.size]? = some (.cells #[v0, v1, v2] 42 (0, 0)) := heap_alloc_new w _
  constructor
  all_goals first | exact ⟨_, hb, rfl⟩ | (rw [World.cell?_alloc_at _ _ _ _ rfl]; rfl) | (unfold World.frozen?; rw [hb]; simp)
theorem CellP.kept {w w' : World} {g : Nat} {v0 v1 v2 : Value} (h : CellP w g v0 v1 v2) (hk : w'.heap[g]? = w.heap[g]?) : CellP w' g v0 v1 v2 := by
  have hc := fun (o : Nat) => World.cell?_of_block (w := w) (w' := w') (a := ⟨g, o, none⟩) hk
  have hf := fun (o : Nat) => World.frozen?_of_block (w := w) (w' := w') (a := ⟨g, o, none⟩) hk
  exact ⟨(hc 0).trans h.c0, (hc 1).trans h.c1, (hc 2).trans h.c2, (hf 0).trans h.f0, (hf 1).trans h.f1, (hf 2).trans h.f2, h.blk.kept hk⟩
theorem CellP.below {w w' : World} {B g : Nat} {v0 v1 v2 : Value} (h : CellP w g v0 v1 v2) (hb : Below B w w') (hg : g < B) : CellP w' g v0 v1 v2 := h.kept (hb.block g hg)
theorem CellP.next {w w' : World} {g : Nat} {v0 v1 v2 : Value} (h : CellP w g v0 v1 v2) (hb : Below w.heap.size w w') : CellP w' g v0 v1 v2 := h.below hb h.blk.lt

theorem MineP.move {w w' : World} {lo B d : Nat} {A : Option Addr} {c : Nat} {l : List P} (h : MineP w A l.length) (hr : Pw w lo B d A c l) (hk : Kept lo B w w') : MineP w' A l.length := fun h0 => by
  obtain ⟨g, e, hb⟩ := h h0
  obtain ⟨b, off, e', h1, h2, _⟩ := hr.at_ h0
  rw [e] at e'
  injection e' with e'
  injection e' with e1
  subst e1
  exact ⟨g, e, hb.kept (hk g h1 h2)⟩

/-- What is handed on through the result's box g, which lies below all that is new. -/
theorem ret_boxP {w : World} {g : Nat} (hb : BlkP w g 1) (v0 v1 v2 : Value) :
    ∃ F, F = ((w.setCell ⟨g, 0, none⟩ v0).setCell ⟨g, 1, none⟩ v1).setCell ⟨g, 2, none⟩ v2 ∧ CellP F g v0 v1 v2 ∧ (∀ lo B, g < lo → Kept lo B w F) ∧ F.heap.size = w.heap.size ∧ ∀ B w0, B ≤ g → Below B w0 w → Below B w0 F := by
  refine ⟨put3 w g 0 v0 v1 v2, rfl, ?_, fun lo B hg => ?_, put3_size _ _ _ _ _ _, fun B w0 hB h => ?_⟩
  · obtain ⟨a0, a1, a2⟩ := put3_at hb 0 (by omega) v0 v1 v2
    have h := put3_blk hb 0 v0 v1 v2
    exact ⟨a0, a1, a2, h.frozen 0, h.frozen 1, h.frozen 2, h⟩
  · exact fun i h1 _ => put3_far _ _ _ _ _ _ i (by omega)
  · exact ((h.setCell hB _).setCell hB _).setCell hB _


/-- What is new stays so behind the result's box. -/
theorem NewP.box {w X w1 F : World} {g d : Nat} {t : P} {A : Option Addr} {c : Nat} {A' : Option Addr} {c' : Nat} (hX : Below w.heap.size w X) (hg : w.heap.size ≤ g) (hgX : g < X.heap.size)
    (rd : Pd w1 X.heap.size w1.heap.size d t A c A' c') (m1 : Mine w1 A t.v.length) (m2 : MineP w1 A' t.p.length) (hb : Below X.heap.size X w1)
    (hk : ∀ lo B, g < lo → Kept lo B w1 F) (hs : F.heap.size = w1.heap.size) (hbel : ∀ B w0, B ≤ g → Below B w0 w1 → Below B w0 F) : NewP w d t (.returned (pl t A c A' c')) F := by
  obtain ⟨d', rfl⟩ := rd.pos
  obtain ⟨n, rv⟩ := rd.2.1
  have k := hk X.heap.size w1.heap.size hgX
  refine ⟨A, c, A', c', rfl, ?_, Mine.move m1 rv k, MineP.move m2 rd.2.2 k, hbel _ _ hg (bnext hX hb)⟩
  rw [hs]
  exact Pd.imp k hX.size (Nat.le_refl _) (Nat.le_refl _) rd

/-- What is built of two new rows, behind the result's box. -/
theorem NewP.build {w W w1 w2 F : World} {g n d : Nat} {t : P} {D : Option Addr} {e1 : Nat} {E : Option Addr} {e2 : Nat} (hW : Below w.heap.size w W) (hg : w.heap.size ≤ g) (hgW : g < W.heap.size) (hk : Knd t)
    (rD : Rw w1 W.heap.size w1.heap.size n D e1 t.v) (mD : Mine w1 D t.v.length) (rE : Pw w2 w1.heap.size w2.heap.size d E e2 t.p) (mE : MineP w2 E t.p.length) (b1 : Below W.heap.size W w1) (b2 : Below w1.heap.size w1 w2)
    (hF : ∀ lo B, g < lo → Kept lo B w2 F) (hs : F.heap.size = w2.heap.size) (hbel : ∀ B w0, B ≤ g → Below B w0 w2 → Below B w0 F) : NewP w (d + 1) t (.returned (pl t D e1 E e2)) F := by
  have z1 := hW.size
  have z2 := b1.size
  have z3 := b2.size
  have k1 : Kept W.heap.size w1.heap.size w1 F := (Kept.of_below b2 (Nat.le_refl _)).trans (hF _ _ hgW)
  have k2 : Kept w1.heap.size w2.heap.size w2 F := hF _ _ (by omega)
  refine ⟨D, e1, E, e2, rfl, ⟨hk, ⟨n, rD.imp k1 z1 (by omega) (fun _ _ _ _ _ h => Rd.imp k1 z1 (by omega) (Nat.le_refl _) h)⟩, rE.imp k2 (by omega) (by omega) (fun _ _ _ _ _ h => Pd.imp k2 (by omega) (by omega) (Nat.le_refl _) h)⟩, mD.move rD k1, mE.move rE k2, hbel _ _ hg (bnext (bnext hW b1) b2)⟩
/-- The boxes of a predicate and the result. -/
theorem boxesR (w : World) (x : Pt) (v0 v1 v2 : Value) (W : World) (hW : (w.alloc (.cells #[.int .i64 x.t.k, .slice x.A x.t.v.length x.c, .slice x.A' x.t.p.length x.c'] 42)).alloc (.cells #[v0, v1, v2] 42) = W) :
    BP W w.heap.size x ∧ CellP W (w.heap.size + 1) v0 v1 v2 ∧ W.heap.size = w.heap.size + 1 + 1 ∧ Below w.heap.size w W := by
  subst hW
  have b := below_new (w.alloc (.cells #[.int .i64 x.t.k, .slice x.A x.t.v.length x.c, .slice x.A' x.t.p.length x.c'] 42)) (.cells #[v0, v1, v2] 42)
  have c := CellP.new (w.alloc (.cells #[.int .i64 x.t.k, .slice x.A x.t.v.length x.c, .slice x.A' x.t.p.length x.c'] 42)) v0 v1 v2
  rw [size_alloc] at c
  exact ⟨(BP.new w x).next b, c, by simp, below_new2 _ _ _⟩
def CopyPAt (r : Nat) : Prop :=
  ∀ (w : World) (d : Nat) (x : Pt) (lev : Int), lev = 13 - r → r ≤ 12 → x.In w d →
    Calls Tryz.prog 79 #[x.val, .int .i64 lev] w (NewP w (r + 1) (copyP r x.t))

/-- The boxes of a predicate, a number, and the result. -/
theorem boxesC (w : World) (x : Pt) (u : Value) (v0 v1 v2 : Value) (W : World) (hW : ((w.alloc (.cells #[.int .i64 x.t.k, .slice x.A x.t.v.length x.c, .slice x.A' x.t.p.length x.c'] 42)).alloc (.cells #[u] 3)).alloc (.cells #[v0, v1, v2] 42) = W) :
    BP W w.heap.size x ∧ W.cell? ⟨w.heap.size + 1, 0, none⟩ = some u ∧ CellP W (w.heap.size + 1 + 1) v0 v1 v2 ∧ W.heap.size = w.heap.size + 1 + 1 + 1 ∧ Below w.heap.size w W := by
  subst hW
  obtain ⟨h1, h2, h3, h4⟩ := boxesP w x u _ rfl
  have b := below_new ((w.alloc (.cells #[.int .i64 x.t.k, .slice x.A x.t.v.length x.c, .slice x.A' x.t.p.length x.c'] 42)).alloc (.cells #[u] 3)) (.cells #[v0, v1, v2] 42)
  have c := CellP.new ((w.alloc (.cells #[.int .i64 x.t.k, .slice x.A x.t.v.length x.c, .slice x.A' x.t.p.length x.c'] 42)).alloc (.cells #[u] 3)) v0 v1 v2
  rw [h3] at c
  exact ⟨h1.next b, cell_below b h2 (by simp), c, by simp, bnext h4 b⟩

set_option maxHeartbeats 1600000 in
theorem copyPAt_zero : CopyPAt 0 := by
  intro w d x lev hlev _ hx
  have hl : 12 < lev := by omega
  obtain ⟨d', rfl⟩ := hx.pos
  have RF := Lib.hid hx.1
  clear hlev hx
  unfold Pt.val
  go_enter Tryz.func79, Tryz.ntmps79
  go_upto_region 2 with fail
  generalize hW : World.alloc (World.alloc (World.alloc _ _) _) _ = W
  obtain ⟨k1, l0, k2, hz, hb⟩ := boxesC _ _ _ _ _ _ _ hW
  obtain ⟨a0, a1, a2, _⟩ := k1
  obtain ⟨s0, s1, s2, p0, p1, p2, hblk⟩ := k2
  have HR := Lib.hid (ret_boxP hblk (.int .i64 x.t.k) (.slice none 0 0) (.slice none 0 0))
  have HB := Lib.hid hb
  have HZ := Lib.hid hz
  clear hz hb hW hblk
  go_wp2
  obtain ⟨F, hF, ⟨r0, r1, r2, _⟩, hk, hs, hbel⟩ := HR.out
  rw [← hF]
  clear hF
  exact bodyPost_ret (v := pl (copyP 0 x.t) none 0 none 0) (by simp [results, Tryz.results79, go_sem, r0, r1, r2]; exact ⟨rfl, rfl, rfl⟩) rfl ⟨none, 0, none, 0, rfl, ⟨⟨RF.out.k0, RF.out.k1⟩, ⟨0, rw_nil _ _ _ _⟩, pw_nil _ _ _ _⟩, fun h => absurd h (by simp [copyP, P.v]), fun h => absurd h (by simp [copyP, P.p]), hbel _ _ (by omega) HB.out⟩

set_option maxHeartbeats 1600000 in
theorem closure_copyP (r : Nat) (ih : CopyPAt r) (hr : r ≤ 11) (g : Nat) (w : World) (lev : Int) (hlev : lev = 12 - r) (hg : g < w.heap.size) (hc : w.cell? ⟨g, 0, none⟩ = some (.int .i64 lev)) : MakesP 103 #[.pointer (some ⟨g, 0, none⟩)] w (fun _ => True) (copyP r) (r + 1) := by
  intro W d x _ hb hx
  have hl0 : 0 ≤ lev := by omega
  have hl1 : lev ≤ 12 := by omega
  show Calls Tryz.prog 103 #[x.val, .pointer (some ⟨g, 0, none⟩)] W (NewP W (r + 1) (copyP r x.t))
  have HX := Lib.hid hx
  have IH := Lib.hid ih
  have HLV := Lib.hid (show lev + 1 = 13 - r by omega)
  have lc := cell_below hb hc hg
  have hgW : g < W.heap.size := Nat.lt_of_lt_of_le hg hb.size
  clear hx ih hlev hb hc
  unfold Pt.val
  go_enter Tryz.func103, Tryz.ntmps103
  go_upto_region 1 with fail
  generalize hY : World.alloc (World.alloc _ _) _ = Y
  obtain ⟨k1, k2, hz, hbY⟩ := boxesR _ _ _ _ _ _ hY
  obtain ⟨a0, a1, a2, _⟩ := k1
  have K2 := Lib.hid k2
  have HB := Lib.hid hbY
  have HZ := Lib.hid hz
  have l1 := cell_below hbY lc hgW
  have hzz : W.heap.size + 1 < Y.heap.size := by rw [hz]; omega
  clear hz hY k2 lc hbY
  go_wp2_with fail
  refine (IH.out _ d x (lev + 1) HLV.out (by omega) (HX.out.next HB.out)).mono ?_
  rintro e w1 ⟨D, e1, D', e2, rfl, rd, m1, m2, hb1⟩
  obtain ⟨s0, s1, s2, p0, p1, p2, hblk⟩ := K2.out.below hb1 hzz
  have HR := Lib.hid (ret_boxP hblk (.int .i64 (copyP r x.t).k) (.slice D (copyP r x.t).v.length e1) (.slice D' (copyP r x.t).p.length e2))
  have RD := Lib.hid rd
  have M1 := Lib.hid m1
  have M2 := Lib.hid m2
  have B1 := Lib.hid hb1
  clear rd m1 m2 hb1 hblk a0 a1 a2 l1
  generalize copyP r x.t = t at *
  go_wp2
  obtain ⟨F, hF, ⟨r0, r1, r2, _⟩, hk, hs, hbel⟩ := HR.out
  rw [← hF]
  clear hF
  exact bodyPost_ret (v := pl t D e1 D' e2) (by simp [results, Tryz.results103, go_sem, r0, r1, r2]) rfl (NewP.box HB.out (by omega) hzz RD.out M1.out M2.out B1.out hk hs hbel)


set_option maxHeartbeats 3200000 in
theorem copyPAt_succ (r : Nat) (ih : CopyPAt r) : CopyPAt (r + 1) := by
  intro w d x lev hlev hr hx
  have hl : lev ≤ 12 := by omega
  have hl0 : 1 ≤ lev := by omega
  have HL := Lib.hid (show lev = 12 - r by omega)
  obtain ⟨d', rfl⟩ := hx.pos
  have RF := Lib.hid hx.1
  obtain ⟨n, rv⟩ := hx.2.1
  have RV := Lib.hid rv
  have RP := Lib.hid hx.2.2
  have IH := Lib.hid ih
  clear hlev hx ih rv
  unfold Pt.val
  go_enter Tryz.func79, Tryz.ntmps79
  go_upto_region 4 with fail
  generalize hW : World.alloc (World.alloc (World.alloc _ _) _) _ = W
  obtain ⟨k1, l0, k2, hz, hb⟩ := boxesC _ _ _ _ _ _ _ hW
  have K1 := Lib.hid k1
  have K2 := Lib.hid k2
  have HB := Lib.hid hb
  have HZ := Lib.hid hz
  have hzz : w.heap.size + 1 + 1 < W.heap.size := by rw [hz]; omega
  have L0 := Lib.hid l0
  have CV := Lib.hid (fun (X : World) (hX : Below W.heap.size W X) => eachV_any X n x.A x.c x.t.v ((RV.out.next HB.out).next hX))
  have CP := Lib.hid (fun (X : World) (hX : Below W.heap.size W X) => eachP_any 103 enters54 #[.pointer (some ⟨w.heap.size + 1, 0, none⟩)] (fun _ => True) (copyP r) (r + 1) X (closure_copyP r IH.out (by omega) (w.heap.size + 1) X lev HL.out (Nat.lt_of_lt_of_le (by omega) hX.size) (cell_below hX L0.out (by simp; omega))) d' x.A' x.c' x.t.p (fun _ _ => trivial) ((RP.out.next HB.out).next hX))
  obtain ⟨a0, a1, a2, _⟩ := k1
  obtain ⟨s0, s1, s2, p0, p1, p2, _⟩ := k2
  clear hz hb hW l0
  go_region_with (first
    | (go_at_call 104; (with_reducible refine (CV.out _ ?_).mono ?_); (focus exact (Below.refl _ _).drew); rintro e w1 ⟨D, e1, n1, rfl, rD, mD, hb1⟩; have hb1' : Below W.heap.size W w1 := (Below.refl _ _).drew.trans hb1; obtain ⟨x0, x1, x2, _⟩ := K1.out.next hb1'; have RD := Lib.hid rD; have MD := Lib.hid mD; have B1 := Lib.hid hb1'; clear rD mD hb1 hb1')
    | (go_at_call 105; (with_reducible refine (CP.out _ ?_).mono ?_); (focus exact B1.out); rintro e w2 ⟨E, e2, rfl, rE, mE, hb2⟩; have B2 := Lib.hid (bnext B1.out hb2); obtain ⟨x0', x1', x2', _⟩ := K1.out.next B2.out; obtain ⟨t0, t1, t2, g0, g1, g2, hblk⟩ := K2.out.below B2.out hzz; have RE := Lib.hid rE; have ME := Lib.hid mE; have B12 := Lib.hid hb2; have HBK := Lib.hid hblk; clear rE mE hb2 hblk))
  all_goals
    have HR := Lib.hid (ret_boxP HBK.out (.int .i64 x.t.k) (.slice D x.t.v.length e1) (.slice E x.t.p.length e2))
    clear a0 a1 a2 s0 s1 s2 p0 p1 p2 x0 x1 x2 x0' x1' x2' t0 t1 t2 g0 g1 g2
    go_wp2_with fail
    obtain ⟨F, hF, ⟨r0, r1, r2, _⟩, hk, hs, hbel⟩ := HR.out
    rw [← hF]
    clear hF
    exact bodyPost_ret (v := pl (copyP (r + 1) x.t) D e1 E e2) (by simp [results, Tryz.results79, go_sem, r0, r1, r2]; exact ⟨rfl, by simp [copyP, P.v], by simp [copyP, P.p]⟩) rfl (NewP.build (t := copyP (r + 1) x.t) HB.out (by omega) hzz ⟨RF.out.k0, RF.out.k1⟩ RD.out MD.out RE.out ME.out B1.out B12.out hk hs hbel)
theorem copyPAt_any : ∀ r, CopyPAt r
  | 0 => copyPAt_zero
  | r + 1 => copyPAt_succ r (copyPAt_any r)

set_option maxHeartbeats 1600000 in
theorem copyP_any (w : World) (d : Nat) (x : Pt) (hx : x.In w d) : Calls Tryz.prog 54 #[x.val] w (NewP w 13 (copyP 12 x.t)) := by
  have HX := Lib.hid hx
  clear hx
  unfold Pt.val
  go_enter Tryz.func54, Tryz.ntmps54
  go_upto_region 1 with fail
  generalize hY : World.alloc (World.alloc _ _) _ = Y
  obtain ⟨k1, k2, hz, hbY⟩ := boxesR _ _ _ _ _ _ hY
  obtain ⟨a0, a1, a2, _⟩ := k1
  have K2 := Lib.hid k2
  have HB := Lib.hid hbY
  have hzz : w.heap.size + 1 < Y.heap.size := by rw [hz]; omega
  clear hz hY k2 hbY
  go_wp2_with fail
  refine (copyPAt_any 12 _ d x 1 (by omega) (by omega) (HX.out.next HB.out)).mono ?_
  rintro e w1 ⟨D, e1, D', e2, rfl, rd, m1, m2, hb1⟩
  obtain ⟨s0, s1, s2, p0, p1, p2, hblk⟩ := K2.out.below hb1 hzz
  have HR := Lib.hid (ret_boxP hblk (.int .i64 (copyP 12 x.t).k) (.slice D (copyP 12 x.t).v.length e1) (.slice D' (copyP 12 x.t).p.length e2))
  have RD := Lib.hid rd
  have M1 := Lib.hid m1
  have M2 := Lib.hid m2
  have B1 := Lib.hid hb1
  clear rd m1 m2 hb1 hblk a0 a1 a2
  generalize copyP 12 x.t = t at *
  go_wp2
  obtain ⟨F, hF, ⟨r0, r1, r2, _⟩, hk, hs, hbel⟩ := HR.out
  rw [← hF]
  clear hF
  exact bodyPost_ret (v := pl t D e1 D' e2) (by simp [results, Tryz.results54, go_sem, r0, r1, r2]) rfl (NewP.box HB.out (by omega) hzz RD.out M1.out M2.out B1.out hk hs hbel)
end Go.Proofs.YtiiopbcihieblaaGreatDoor


