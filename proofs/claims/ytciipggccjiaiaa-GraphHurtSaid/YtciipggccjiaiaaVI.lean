/- Carried over from the seat of layer 2. -/
import Derived.Test.YtciipggccjiaiaaVH
import Derived.Deep.RegionWith
import Derived.Deep.DrawnRows
import Derived.Deep.DeepCutAuto
namespace Go.Proofs.Ytciipggccjiaiaa
set_option maxRecDepth 100000
open Go.RowKit
attribute [local go_sem ↓] Go.wp_at_zero Go.wp_at_succ

/-- A box of one value that is the call's own. -/
structure Cell (w : World) (g : Nat) (v0 v1 v2 v3 v4 : Value) : Prop where
  c0 : w.cell? ⟨g, 0, none⟩ = some v0
  c1 : w.cell? ⟨g, 1, none⟩ = some v1
  c2 : w.cell? ⟨g, 2, none⟩ = some v2
  c3 : w.cell? ⟨g, 3, none⟩ = some v3
  c4 : w.cell? ⟨g, 4, none⟩ = some v4
  f0 : w.frozen? ⟨g, 0, none⟩ = false
  f1 : w.frozen? ⟨g, 1, none⟩ = false
  f2 : w.frozen? ⟨g, 2, none⟩ = false
  f3 : w.frozen? ⟨g, 3, none⟩ = false
  f4 : w.frozen? ⟨g, 4, none⟩ = false
  blk : Blk w g 1
theorem Cell.new (w : World) (v0 v1 v2 v3 v4 : Value) : Cell (w.alloc (.cells #[v0, v1, v2, v3, v4] 37)) w.heap.size v0 v1 v2 v3 v4 := by
  have hb : (w.alloc (.cells #[v0, v1, v2, v3, v4] 37)).heap[w.heap.size]? = some (.cells #[v0, v1, v2, v3, v4] 37 (0, 0)) := heap_alloc_new w _
  constructor
  all_goals first | exact ⟨_, hb, rfl⟩ | (rw [World.cell?_alloc_at _ _ _ _ rfl]; rfl) | (unfold World.frozen?; rw [hb]; simp)
theorem Cell.kept {w w' : World} {g : Nat} {v0 v1 v2 v3 v4 : Value} (h : Cell w g v0 v1 v2 v3 v4) (hk : w'.heap[g]? = w.heap[g]?) : Cell w' g v0 v1 v2 v3 v4 := by
  have hc := fun (o : Nat) => World.cell?_of_block (w := w) (w' := w') (a := ⟨g, o, none⟩) hk
  have hf := fun (o : Nat) => World.frozen?_of_block (w := w) (w' := w') (a := ⟨g, o, none⟩) hk
  exact ⟨(hc 0).trans h.c0, (hc 1).trans h.c1, (hc 2).trans h.c2, (hc 3).trans h.c3, (hc 4).trans h.c4, (hf 0).trans h.f0, (hf 1).trans h.f1, (hf 2).trans h.f2, (hf 3).trans h.f3, (hf 4).trans h.f4, h.blk.kept hk⟩
theorem Cell.below {w w' : World} {B g : Nat} {v0 v1 v2 v3 v4 : Value} (h : Cell w g v0 v1 v2 v3 v4) (hb : Below B w w') (hg : g < B) : Cell w' g v0 v1 v2 v3 v4 := h.kept (hb.block g hg)

/-- Five cells of a box written. -/
theorem fin5 {w : World} {g : Nat} (h : Blk w g 1) (v0 v1 v2 v3 v4 : Value) : Cell (((((w.setCell ⟨g, 0, none⟩ v0).setCell ⟨g, 1, none⟩ v1).setCell ⟨g, 2, none⟩ v2).setCell ⟨g, 3, none⟩ v3).setCell ⟨g, 4, none⟩ v4) g v0 v1 v2 v3 v4 := by
  obtain ⟨a0, a1, a2, a3, a4⟩ := put5_at h 0 (by omega) v0 v1 v2 v3 v4
  have hb := put5_blk h 0 v0 v1 v2 v3 v4
  exact ⟨a0, a1, a2, a3, a4, hb.frozen 0, hb.frozen 1, hb.frozen 2, hb.frozen 3, hb.frozen 4, hb⟩

/-- Two boxes, one behind the other. -/
theorem cells2 (w : World) (v0 v1 v2 v3 v4 u0 u1 u2 u3 u4 : Value) (W : World) (hW : (w.alloc (.cells #[v0, v1, v2, v3, v4] 37)).alloc (.cells #[u0, u1, u2, u3, u4] 37) = W) :
    Cell W w.heap.size v0 v1 v2 v3 v4 ∧ Cell W (w.heap.size + 1) u0 u1 u2 u3 u4 ∧ W.heap.size = w.heap.size + 1 + 1 ∧ Below w.heap.size w W := by
  subst hW
  refine ⟨(Cell.new w _ _ _ _ _).below (below_new _ _) (by simp), ?_, by simp, below_new2 _ _ _⟩
  have := Cell.new (w.alloc (.cells #[v0, v1, v2, v3, v4] 37)) u0 u1 u2 u3 u4
  rwa [size_alloc] at this

theorem Mine.move {w w' : World} {lo B d : Nat} {A : Option Addr} {c : Nat} {l : List V} (h : Mine w A l.length) (hr : Rw w lo B d A c l) (hk : Kept lo B w w') : Mine w' A l.length := fun h0 => by
  obtain ⟨g, e, hb⟩ := h h0
  obtain ⟨b, off, e', h1, h2, _⟩ := hr.at_ h0
  rw [e] at e'
  injection e' with e'
  injection e' with e1
  subst e1
  exact ⟨g, e, hb.kept (hk g h1 h2)⟩
theorem fld_copy {t : V} (r : Nat) (h : Fld t) : Fld (copyV r t) := by
  cases r <;> exact ⟨h.k0, h.k1, h.n0, h.n1, h.s1⟩

set_option maxHeartbeats 1600000 in
theorem copyAt_zero : CopyAt 0 := by
  intro w da a A c A' c' lev hlev _ ra
  have hl : 12 < lev := by omega
  obtain ⟨da', rfl⟩ := ra.pos
  have RF := Lib.hid ra.1
  clear hlev ra
  unfold vl
  go_enter Try.func60, Try.ntmps60
  go_wp2
  exact bodyPost_ret (v := vl (copyV 0 a) none 0 none 0) (by simp [results, Try.results60, go_sem]; exact ⟨rfl, rfl, rfl, rfl, rfl⟩) rfl ⟨none, 0, none, 0, rfl, ⟨fld_copy 0 RF.out, rw_nil _ _ _ _, rw_nil _ _ _ _⟩, fun h => absurd h (by simp [copyV, V.l]), fun h => absurd h (by simp [copyV, V.m]), below_new2 _ _ _⟩

set_option maxHeartbeats 3200000 in
theorem copyAt_succ (r : Nat) (ih : CopyAt r) : CopyAt (r + 1) := by
  intro w da a A c A' c' lev hlev hr ra
  have hl : lev ≤ 12 := by omega
  have hl0 : 1 ≤ lev := by omega
  have HL := Lib.hid (show lev + 1 = 13 - r by omega)
  obtain ⟨da', rfl⟩ := ra.pos
  have RF := Lib.hid ra.1
  have RL := Lib.hid ra.2.1
  have RM := Lib.hid ra.2.2
  have IH := Lib.hid ih
  clear hlev ra ih
  unfold vl
  go_enter Try.func60, Try.ntmps60
  go_wp2_with fail
  generalize hW : World.alloc (World.alloc _ _) _ = W
  obtain ⟨k1, k2, hz, hb⟩ := cells2 _ _ _ _ _ _ _ _ _ _ _ _ hW
  have K1 := Lib.hid k1
  have K2 := Lib.hid k2
  have HZ := Lib.hid hz
  have HB := Lib.hid hb
  have CL := Lib.hid (fun (X : World) (hX : Below W.heap.size W X) => copyRow_any r IH.out (by omega) X da' A c a.l (lev + 1) HL.out ((RL.out.next HB.out).next hX))
  have CM := Lib.hid (fun (X : World) (hX : Below W.heap.size W X) => copyRow_any r IH.out (by omega) X da' A' c' a.m (lev + 1) HL.out ((RM.out.next HB.out).next hX))
  obtain ⟨a0, a1, a2, a3, a4, f0, f1, f2, f3, f4, _⟩ := k1
  have hzz : w.heap.size + 1 < W.heap.size := by rw [hz]; omega
  clear hz hb hW k2
  have i3 : IntKind.i64.wrap (lev + 1) = lev + 1 := IntWalk.i64_in _ (by omega)
  go_region_with (go_at_call 77; first
    | ((with_reducible refine (CL.out _ ?_).mono ?_); (focus exact (Below.refl _ _).drew); rintro e w1 ⟨D, e1, rfl, rD, mD, hb1⟩; have hb1' : Below W.heap.size W w1 := (Below.refl _ _).drew.trans hb1; obtain ⟨x0, x1, x2, x3, x4, y0, y1, y2, y3, y4, _⟩ := K1.out.below hb1' (by omega); have RD := Lib.hid rD; have MD := Lib.hid mD; have B1 := Lib.hid hb1'; clear rD mD hb1 hb1')
    | ((with_reducible refine (CM.out _ ?_).mono ?_); (focus exact B1.out); rintro e w2 ⟨E, e2, rfl, rE, mE, hb2⟩; have B2 := Lib.hid (bnext B1.out hb2); obtain ⟨x0', x1', x2', x3', x4', y0', y1', y2', y3', y4', _⟩ := K1.out.below B2.out (by omega); have RE := Lib.hid rE; have ME := Lib.hid mE; have B12 := Lib.hid hb2; clear rE mE hb2))
  all_goals
    obtain ⟨s0, s1, s2, s3, s4, p0, p1, p2, p3, p4, hblk⟩ := K2.out.below B2.out hzz
    have HBK := Lib.hid hblk
    clear hblk a0 a1 a2 a3 a4 f0 f1 f2 f3 f4 x0 x1 x2 x3 x4 y0 y1 y2 y3 y4
    go_wp2
    have hsz : W.heap.size ≤ w1.heap.size := B1.out.size
    have hsz2 : w1.heap.size ≤ w2.heap.size := B12.out.size
    have hs0 : w.heap.size ≤ W.heap.size := by omega
    have BF : Below w.heap.size w w2 := HB.out.trans (B2.out.mono hs0)
    generalize hF : World.setCell (World.setCell (World.setCell (World.setCell (World.setCell (World.setCell (World.setCell w2 _ _) _ _) _ _) _ _) _ _) _ _) _ _ = F
    have hc := fin5 ((HBK.out.set ⟨w.heap.size, 3, none⟩ (.slice D a.l.length e1) rfl).set ⟨w.heap.size, 4, none⟩ (.slice E a.m.length e2) rfl) (.int .i64 a.k) (.int .i64 a.n) (.string a.s) (.slice D a.l.length e1) (.slice E a.m.length e2)
    rw [hF] at hc
    have hk : Kept W.heap.size w2.heap.size w2 F := by
      rw [← hF]
      repeat (refine Kept.trans ?_ (Kept.setCell (.inl (by simp; omega)) _))
      exact Kept.refl _ _ _
    have hbf : Below w.heap.size w F := by
      rw [← hF]
      repeat (refine Below.setCell ?_ (by simp) _)
      exact BF
    have hsf : F.heap.size = w2.heap.size := by rw [← hF]; simp [World.setCell]
    clear hF
    obtain ⟨r0, r1, r2, r3, r4, _⟩ := hc
    have hk1 : Kept W.heap.size w1.heap.size w1 F := (Kept.of_below B12.out (Nat.le_refl _)).trans (fun i h1 h2 => hk i h1 (by omega))
    have hk2 : Kept w1.heap.size w2.heap.size w2 F := fun i h1 h2 => hk i (by omega) h2
    have RD' : Rw w1 W.heap.size w1.heap.size (r + 1) D e1 (a.l.map (copyV r)) := RD.out
    have RE' : Rw w2 w1.heap.size w2.heap.size (r + 1) E e2 (a.m.map (copyV r)) := RE.out
    refine bodyPost_ret (v := vl (copyV (r + 1) a) D e1 E e2) (by simp [results, Try.results60, go_sem, r0, r1, r2, r3, r4]; exact ⟨rfl, rfl, rfl, by simp [copyV, V.l], by simp [copyV, V.m]⟩) rfl ⟨D, e1, E, e2, rfl, ⟨fld_copy (r + 1) RF.out, ?_, ?_⟩, ?_, ?_, hbf⟩
    · exact RD'.imp hk1 hs0 (by omega) (fun _ _ _ _ _ h => Rd.imp hk1 hs0 (by omega) (Nat.le_refl _) h)
    · exact RE'.imp hk2 (by omega) (by omega) (fun _ _ _ _ _ h => Rd.imp hk2 (by omega) (by omega) (Nat.le_refl _) h)
    · exact (show Mine F D (a.l.map (copyV r)).length from Mine.move MD.out RD' hk1)
    · exact (show Mine F E (a.m.map (copyV r)).length from Mine.move ME.out RE' hk2)

theorem copyAt_any : ∀ r, CopyAt r
  | 0 => copyAt_zero
  | r + 1 => copyAt_succ r (copyAt_any r)

theorem New.mono {w w0 w' : World} {d : Nat} {t : V} {e : Ending} (h : New w d t e w') (hb : Below w0.heap.size w0 w) : New w0 d t e w' := by
  obtain ⟨A, c, A', c', h1, h2, h3, h4, h5⟩ := h
  exact ⟨A, c, A', c', h1, h2.more hb.size (Nat.le_refl _) (Nat.le_refl _), h3, h4, bnext hb h5⟩

/-- A value of the caller's in a box that the call has made for its result. -/
theorem ret_box {w1 : World} {g : Nat} (h : Blk w1 g 1) (v0 v1 v2 v3 v4 : Value) : ∃ F, F = ((((w1.setCell ⟨g, 0, none⟩ v0).setCell ⟨g, 1, none⟩ v1).setCell ⟨g, 2, none⟩ v2).setCell ⟨g, 3, none⟩ v3).setCell ⟨g, 4, none⟩ v4 ∧ Cell F g v0 v1 v2 v3 v4 ∧ (∀ lo B, g < lo → Kept lo B w1 F) ∧ F.heap.size = w1.heap.size ∧ (∀ B w, B ≤ g → Below B w w1 → Below B w F) := by
  refine ⟨_, rfl, fin5 h _ _ _ _ _, fun lo B hg => ?_, by simp [World.setCell], fun B w hB hb => ?_⟩
  · repeat (refine Kept.trans ?_ (Kept.setCell (.inl hg) _))
    exact Kept.refl _ _ _
  · repeat (refine Below.setCell ?_ hB _)
    exact hb
theorem New.box {w X w1 F : World} {g d : Nat} {t : V} {A : Option Addr} {c : Nat} {A' : Option Addr} {c' : Nat} (hX : Below w.heap.size w X) (hg : w.heap.size ≤ g) (hgX : g < X.heap.size)
    (rd : Rd w1 X.heap.size w1.heap.size d t A c A' c') (m1 : Mine w1 A t.l.length) (m2 : Mine w1 A' t.m.length) (hb : Below X.heap.size X w1)
    (hk : ∀ lo B, g < lo → Kept lo B w1 F) (hs : F.heap.size = w1.heap.size) (hbel : ∀ B w, B ≤ g → Below B w w1 → Below B w F) : New w d t (.returned (vl t A c A' c')) F := by
  obtain ⟨d', rfl⟩ := rd.pos
  have k := hk X.heap.size w1.heap.size hgX
  refine ⟨A, c, A', c', rfl, ?_, Mine.move m1 rd.2.1 k, Mine.move m2 rd.2.2 k, hbel _ _ hg (bnext hX hb)⟩
  rw [hs]
  exact Rd.imp k hX.size (Nat.le_refl _) (Nat.le_refl _) rd

set_option maxHeartbeats 1600000 in
theorem copy_any (w : World) (da : Nat) (a : V) (A : Option Addr) (c : Nat) (A' : Option Addr) (c' : Nat) (ra : Rd w 0 w.heap.size da a A c A' c') :
    Calls Try.prog 46 #[vl a A c A' c'] w (New w 13 (copyV 12 a)) := by
  have RA := Lib.hid ra
  clear ra
  unfold vl
  go_enter Try.func46, Try.ntmps46
  go_wp2_with fail
  generalize hW : World.alloc (World.alloc _ _) _ = W
  obtain ⟨k1, k2, hz, hb⟩ := cells2 _ _ _ _ _ _ _ _ _ _ _ _ hW
  have K2 := Lib.hid k2
  have HZ := Lib.hid hz
  have HB := Lib.hid hb
  have hzz : w.heap.size + 1 < W.heap.size := by rw [hz]; omega
  clear hz hb hW k1 k2
  refine (copyAt_any 12 W da a _ _ _ _ 1 (by omega) (by omega) (RA.out.next HB.out)).mono ?_
  rintro e w1 ⟨D, e1, D', e2, rfl, rd, m1, m2, hb1⟩
  obtain ⟨s0, s1, s2, s3, s4, p0, p1, p2, p3, p4, hblk⟩ := K2.out.below hb1 hzz
  have HR := Lib.hid (ret_box hblk (.int .i64 (copyV 12 a).k) (.int .i64 (copyV 12 a).n) (.string (copyV 12 a).s) (.slice D (copyV 12 a).l.length e1) (.slice D' (copyV 12 a).m.length e2))
  have RD := Lib.hid rd
  have M1 := Lib.hid m1
  have M2 := Lib.hid m2
  have B1 := Lib.hid hb1
  clear rd m1 m2 hb1 hblk
  generalize copyV 12 a = t at *
  go_wp2
  obtain ⟨F, hF, ⟨r0, r1, r2, r3, r4, _⟩, hk, hs, hbel⟩ := HR.out
  rw [← hF]
  clear hF
  exact bodyPost_ret (v := vl t D e1 D' e2) (by simp [results, Try.results46, go_sem, r0, r1, r2, r3, r4]) rfl (New.box HB.out (by omega) hzz RD.out M1.out M2.out B1.out hk hs hbel)

end Go.Proofs.Ytciipggccjiaiaa

