/- Carried over from an earlier seat. -/
import Derived.Test.YtiiopbcihieblaaGreatDoorVVb
import Derived.Deep.RegionWith
import Derived.Deep.DrawnRows
import Derived.Deep.DeepCutAuto
namespace Go.Proofs.YtiiopbcihieblaaGreatDoor
set_option maxRecDepth 100000
set_option maxRecDepth 100000
set_option maxRecDepth 100000
set_option maxRecDepth 100000
open Go.RowKit
attribute [local go_sem ↓] Go.wp_at_zero Go.wp_at_succ

/-- A value of the caller's in a box that the call has made for its result. -/
theorem ret_box {w1 : World} {g : Nat} (h : Blk w1 g 1) (v0 v1 v2 v3 v4 : Value) : ∃ F, F = ((((w1.setCell ⟨g, 0, none⟩ v0).setCell ⟨g, 1, none⟩ v1).setCell ⟨g, 2, none⟩ v2).setCell ⟨g, 3, none⟩ v3).setCell ⟨g, 4, none⟩ v4 ∧ Cell F g v0 v1 v2 v3 v4 ∧ (∀ lo B, g < lo → Kept lo B w1 F) ∧ F.heap.size = w1.heap.size ∧ (∀ B w, B ≤ g → Below B w w1 → Below B w F) := by
  refine ⟨_, rfl, fin5 h _ _ _ _ _, fun lo B hg => ?_, by simp [World.setCell], fun B w hB hb => ?_⟩
  · repeat (refine Kept.trans ?_ (Kept.setCell (.inl hg) _))
    exact Kept.refl _ _ _
  · repeat (refine Below.setCell ?_ hB _)
    exact hb
theorem New.box {w X w1 F : World} {g d : Nat} {t : V} {A : Option Addr} {c : Nat} {A' : Option Addr} {c' : Nat} (hX : Below w.heap.size w X) (hg : w.heap.size ≤ g) (hgX : g < X.heap.size)
    (rd : Rd w1 X.heap.size w1.heap.size d t A c A' c') (m1 : Mine w1 A t.l.length) (m2 : Mine w1 A' t.m.length) (hb : Below X.heap.size X w1)
    (hk : ∀ lo B, g < lo → Kept lo B w1 F) (hs : F.heap.size = w1.heap.size) (hbel : ∀ B w, B ≤ g → Below B w w1 → Below B w F) : New w d t (.returned (vl t A c A' c')) F := by
  obtain ⟨d', rfl⟩ := rd.pos
  have k := hk X.heap.size w1.heap.size hgX
  refine ⟨A, c, A', c', rfl, ?_, Mine.move m1 rd.2.1 k, Mine.move m2 rd.2.2 k, hbel _ _ hg (bnext hX hb)⟩
  rw [hs]
  exact Rd.imp k hX.size (Nat.le_refl _) (Nat.le_refl _) rd

set_option maxHeartbeats 1600000 in
theorem copy_any (w : World) (da : Nat) (a : V) (A : Option Addr) (c : Nat) (A' : Option Addr) (c' : Nat) (ra : Rd w 0 w.heap.size da a A c A' c') :
    Calls Tryz.prog 53 #[vl a A c A' c'] w (New w 13 (copyV 12 a)) := by
  have RA := Lib.hid ra
  clear ra
  unfold vl
  go_enter Tryz.func53, Tryz.ntmps53
  go_wp2_with fail
  generalize hW : World.alloc (World.alloc _ _) _ = W
  obtain ⟨k1, k2, hz, hb⟩ := cells2 _ _ _ _ _ _ _ _ _ _ _ _ hW
  have K2 := Lib.hid k2
  have HZ := Lib.hid hz
  have HB := Lib.hid hb
  have hzz : w.heap.size + 1 < W.heap.size := by rw [hz]; omega
  clear hz hb hW k1 k2
  refine (copyAt_any 12 W da a _ _ _ _ 1 (by omega) (by omega) (RA.out.next HB.out)).mono ?_
  rintro e w1 ⟨D, e1, D', e2, rfl, rd, m1, m2, hb1⟩
  obtain ⟨s0, s1, s2, s3, s4, p0, p1, p2, p3, p4, hblk⟩ := K2.out.below hb1 hzz
  have HR := Lib.hid (ret_box hblk (.int .i64 (copyV 12 a).k) (.int .i64 (copyV 12 a).n) (.string (copyV 12 a).s) (.slice D (copyV 12 a).l.length e1) (.slice D' (copyV 12 a).m.length e2))
  have RD := Lib.hid rd
  have M1 := Lib.hid m1
  have M2 := Lib.hid m2
  have B1 := Lib.hid hb1
  clear rd m1 m2 hb1 hblk
  generalize copyV 12 a = t at *
  go_wp2
  obtain ⟨F, hF, ⟨r0, r1, r2, r3, r4, _⟩, hk, hs, hbel⟩ := HR.out
  rw [← hF]
  clear hF
  exact bodyPost_ret (v := vl t D e1 D' e2) (by simp [results, Tryz.results53, go_sem, r0, r1, r2, r3, r4]) rfl (New.box HB.out (by omega) hzz RD.out M1.out M2.out B1.out hk hs hbel)

end Go.Proofs.YtiiopbcihieblaaGreatDoor




