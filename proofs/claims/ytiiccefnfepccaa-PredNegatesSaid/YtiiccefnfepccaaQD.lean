/- The document's Negate. -/
import Derived.Test.YtiiccefnfepccaaQC
import Derived.Test.YtiiccefnfepccaaPH
import Derived.Test.YtiiccefnfepccaaPM
namespace Go.Proofs.Ytiiccefnfepccaa
set_option maxRecDepth 100000
open Go.RowKit Go.Sort

/-- A call hands on such a predicate. -/
def GivesP (w : World) (d : Nat) (t : P) (e : Ending) (w' : World) : Prop :=
  ∃ q : Pt, e = .returned q.val ∧ q.t = t ∧ q.In w' d ∧ Below w.heap.size w w'

set_option maxHeartbeats 1600000 in
theorem refNegate_any (w : World) (d : Nat) (x : Pt) (hx : x.In w d) : Calls Try.prog 19 #[x.val] w (GivesP w (d + 13) (ngP x.t)) := by
  have HX := Lib.hid hx
  clear hx
  unfold Pt.val
  go_enter Try.func19, Try.ntmps19
  go_upto_region 1 with fail
  generalize hY : World.alloc (World.alloc _ _) _ = Y
  obtain ⟨k1, k2, hz, hbY⟩ := boxesR _ _ _ _ _ _ hY
  have K1 := Lib.hid k1
  obtain ⟨a0, a1, a2, _⟩ := k1
  have K2 := Lib.hid k2
  have HB := Lib.hid hbY
  have hzz : w.heap.size + 1 < Y.heap.size := by rw [hz]; omega
  clear hz hY k2 hbY
  go_wp2_with fail
  refine (right_p 12 Y d x 1 (by omega) (by omega) (HX.out.next HB.out)).mono ?_
  rintro e w1 ⟨rfl, hb1⟩
  have B1 := Lib.hid (bnext HB.out hb1)
  have K3 := Lib.hid (K1.out.next hb1)
  have K4 := Lib.hid (K2.out.next hb1)
  have hz1 : w.heap.size + 1 < w1.heap.size := Nat.lt_of_lt_of_le hzz hb1.size
  clear hb1 a0 a1 a2
  cases hq : okP 12 x.t
  · have FIN := Lib.hid (show ngP x.t = zeroP by unfold ngP; rw [hq]; rfl)
    obtain ⟨s0, s1, s2, p0, p1, p2, hblk⟩ := K4.out
    have HR := Lib.hid (ret_boxP hblk (.int .i64 0) (.slice none 0 0) (.slice none 0 0))
    clear hblk
    go_wp2
    obtain ⟨F, hF, ⟨r0, r1, r2, _⟩, hk, hs, hbel⟩ := HR.out
    rw [← hF]
    clear hF
    rw [FIN.out]
    exact bodyPost_ret (v := pl zeroP none 0 none 0) (by simp [results, Try.results19, go_sem, r0, r1, r2]; exact ⟨rfl, rfl, rfl⟩) rfl ⟨⟨zeroP, none, 0, none, 0⟩, rfl, rfl, (zeroP_in F).up (by omega), hbel _ _ (by omega) B1.out⟩
  · have FIN := Lib.hid (show ngP x.t = negP 12 x.t by unfold ngP; rw [if_pos hq])
    obtain ⟨a0, a1, a2, _⟩ := K3.out
    go_wp2_with fail
    refine (negR_any 12 w1 d x w.heap.size hq (HX.out.keep (fun k _ hk => B1.out.block k hk)) (by omega)).mono ?_
    rintro e w2 ⟨⟨t, D, e1, D', e2⟩, S, rfl, ht, rd, hS, hb2⟩
    obtain rfl : t = _ := ht
    obtain ⟨s0, s1, s2, p0, p1, p2, hblk⟩ := K4.out.below hb2 hz1
    have HR := Lib.hid (ret_boxP hblk (.int .i64 (negP 12 x.t).k) (.slice D (negP 12 x.t).v.length e1) (.slice D' (negP 12 x.t).p.length e2))
    have RD := Lib.hid rd
    have HS := Lib.hid hS
    have B2 := Lib.hid hb2
    clear rd hS hb2 hblk a0 a1 a2 hq
    generalize negP 12 x.t = t at *
    go_wp2
    obtain ⟨F, hF, ⟨r0, r1, r2, _⟩, hk, hs, hbel⟩ := HR.out
    rw [← hF]
    clear hF
    rw [FIN.out]
    have b2 := B2.out.size
    have bF := hbel w.heap.size w (by omega) (bnext B1.out B2.out)
    refine bodyPost_ret (v := pl t D e1 D' e2) (by simp [results, Try.results19, go_sem, r0, r1, r2]) rfl ⟨⟨t, D, e1, D', e2⟩, rfl, rfl, ?_, bF⟩
    have same : ∀ b, b < w.heap.size → F.heap[b]? = w2.heap[b]? := fun b hb => (bF.block b hb).trans ((bnext B1.out B2.out).block b hb).symm
    exact PdS.pd (by have := bF.size; omega) (PdS.keep (by omega) same (fun b hb h => hk (w.heap.size + 2) w2.heap.size (by omega) b (by have := HS.out b hb; omega) h) (fun _ h => h) (Nat.le_refl _) RD.out)
end Go.Proofs.Ytiiccefnfepccaa
