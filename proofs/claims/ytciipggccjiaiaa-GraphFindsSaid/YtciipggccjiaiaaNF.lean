/- Contract of graph.copyProps: a row of copies. -/
import Derived.Test.YtciipggccjiaiaaNE
import Derived.Deep.DeepCutAuto
import Derived.Deep.Cut
namespace Go.Proofs.Ytciipggccjiaiaa
open Go.RowKit Go.Sort
set_option maxRecDepth 100000

theorem box39 (w : World) (p : PA) (W : World) (hW : w.alloc (.cells #[.string p.key, .int .i64 p.x.t.k, .int .i64 p.x.t.n, .string p.x.t.s, .slice p.x.A p.x.t.l.length p.x.c, .slice p.x.A' p.x.t.m.length p.x.c'] 39) = W) : cells6 W w.heap.size 0 p ∧ Below w.heap.size w W ∧ W.heap.size = w.heap.size + 1 := by
  subst hW
  refine ⟨?_, below_new _ _, by simp⟩
  constructor
  all_goals (rw [World.cell?_alloc_at _ _ _ _ rfl]; rfl)

set_option maxHeartbeats 3200000 in
theorem copyProps_any (w : World) (d : Nat) (A : Option Addr) (c : Nat) (l : List PA) (h : PRow w 0 d A c l) : Calls Try.prog 59 #[.slice A l.length c] w (CRow w l) := by
  have H := Lib.hid h
  have hbig := h.big
  have hmk := make39 l.length hbig
  clear h
  by_cases h0 : l.length = 0
  · have e0 : ((l.length : Int) == 0) = true := by rw [h0]; rfl
    obtain rfl : l = [] := List.eq_nil_of_length_eq_zero h0
    clear hmk
    go_enter Try.func59, Try.ntmps59
    go_wp2
    go_ret
    exact ⟨none, 0, [], rfl, prow_nil _ _ _, rfl, fun h => absurd h (by simp), Below.refl _ _⟩
  · have e0 : ((l.length : Int) == 0) = false := beq_eq_false_iff_ne.2 (by omega)
    go_enter Try.func59, Try.ntmps59
    go_wp2
    have hb0 := blkP_made w l.length
    generalize hX : World.alloc w _ = X at hb0
    have hBX : Below w.heap.size w X := by rw [← hX]; exact below_new _ _
    have hS : X.heap.size = w.heap.size + 1 := by rw [← hX]; simp
    have F0 := Lib.hid (show FillP X w.heap.size l.length 13 [] from ⟨hb0, fun j t h => by simp at h⟩)
    have BX := Lib.hid hBX
    have SX := Lib.hid hS
    clear hb0 hBX hS hX
    go_loopw [14] (fun i wr => ∃ (k : Nat) (done : List PA), k ≤ l.length ∧ i = .int .i64 k ∧ Hid (Below w.heap.size w wr) ∧ Hid (w.heap.size + 1 ≤ wr.heap.size) ∧ Hid (done.map PA.kv = (l.take k).map PA.ckv) ∧ Hid (FillP wr w.heap.size l.length 13 done)) (fun i _ => l.length - (intOf i).toNat)
    case atStart => exact ⟨0, [], by omega, rfl, BX, Lib.hid (by rw [SX.out]; omega), Lib.hid rfl, F0⟩
    case round =>
      obtain ⟨k, done, hk, rfl, hbel, hsz, hD, hF⟩ := hrel
      by_cases hlt : k < l.length
      · obtain ⟨b, off, p, rfl, hb, hp, q6, rx⟩ := (H.out.next hbel.out).elem hlt
        obtain ⟨q0, q1, q2, q3, q4, q5⟩ := q6
        have RX := Lib.hid rx
        have HP := Lib.hid hp
        clear rx hp
        go_upto_region 7 with fail
        generalize hW : World.alloc wr _ = W
        obtain ⟨⟨z0, z1, z2, z3, z4, z5⟩, hbW, hsW⟩ := box39 wr p W hW
        have HBW := Lib.hid hbW
        have CC := Lib.hid (fun (Y : World) (hY : Below W.heap.size W Y) => copy_any Y d p.x.t _ _ _ _ ((RX.out.next hbW).next hY))
        have hFW := Lib.hid (hF.out.next hbW)
        have hgW : wr.heap.size < W.heap.size := by omega
        have hgw : w.heap.size < wr.heap.size := by have := hsz.out; omega
        generalize hg5 : wr.heap.size = g5 at z0 z1 z2 z3 z4 z5 hgW hgw
        have HG5 := Lib.hid hg5
        have hs5 : W.heap.size = g5 + 1 := by rw [← hg5]; exact hsW
        clear hs5
        clear hW hbW hg5 hsW q0 q1 q2 q3 q4 q5
        have k0 : (0 : Int) ≤ (k : Int) := by omega
        have k1 : (k : Int) < (l.length : Int) := by omega
        go_region_with (go_at_call 46; (with_reducible refine (CC.out _ ?_).mono ?_); (focus exact (Below.refl _ _).drew); rintro e w1 ⟨E, e1, E', e2, rfl, rd, _, _, hb0⟩; have hb1 : Below W.heap.size W w1 := (Below.refl _ _).drew.trans hb0; have y0 := cell_below hb1 z0 hgW; have hbk := (hFW.out.blk).below hb1 hFW.out.blk.lt; obtain ⟨v0, f0⟩ := hbk.cell (i := k * 6) (by omega); obtain ⟨v1, f1⟩ := hbk.cell (i := k * 6 + 1) (by omega); obtain ⟨v2, f2⟩ := hbk.cell (i := k * 6 + 2) (by omega); obtain ⟨v3, f3⟩ := hbk.cell (i := k * 6 + 3) (by omega); obtain ⟨v4, f4⟩ := hbk.cell (i := k * 6 + 4) (by omega); obtain ⟨v5, f5⟩ := hbk.cell (i := k * 6 + 5) (by omega); have x0 := hbk.frozen (k * 6); have x1 := hbk.frozen (k * 6 + 1); have x2 := hbk.frozen (k * 6 + 2); have x3 := hbk.frozen (k * 6 + 3); have x4 := hbk.frozen (k * 6 + 4); have x5 := hbk.frozen (k * 6 + 5); have RD := Lib.hid rd; have HB1 := Lib.hid hb1; clear rd hb1 hb0 hbk)
        all_goals
          go_wp2
          have FP := Lib.hid ((hFW.out.next HB1.out).put (p := ⟨p.key, ⟨copyV 12 p.x.t, E, e1, E', e2⟩⟩) k (by have := congrArg List.length hD.out; simpa [Nat.min_eq_left hk] using this) hlt (RD.out.more (lo' := w.heap.size + 1) (by show w.heap.size + 1 ≤ W.heap.size; omega) (Nat.le_refl _) (Nat.le_refl _)))
          have DN := Lib.hid (show (done ++ [(⟨p.key, ⟨copyV 12 p.x.t, E, e1, E', e2⟩⟩ : PA)]).map PA.kv = (l.take (k + 1)).map PA.ckv by rw [take_map_next PA.ckv l k HP.out, List.map_append, hD.out]; rfl)
          have BW := Lib.hid (show Below w.heap.size w w1 from bnext hbel.out (bnext HBW.out HB1.out))
          have SW := Lib.hid (show w.heap.size + 1 ≤ w1.heap.size by have := hsz.out; have := HBW.out.size; have := HB1.out.size; omega)
          go_roundw
          case rel => exact ⟨k + 1, _, by omega, by go_num, Lib.hid ((((((BW.out.setCell (Nat.le_refl _) _).setCell (Nat.le_refl _) _).setCell (Nat.le_refl _) _).setCell (Nat.le_refl _) _).setCell (Nat.le_refl _) _).setCell (Nat.le_refl _) _), Lib.hid (by rw [put6_size]; exact SW.out), DN, FP⟩
          case measure => simp [intOf]; omega
      · obtain rfl : k = l.length := by omega
        rw [List.take_length] at hD
        go_wp2
        go_ret
        have hl : done.length = l.length := by have := congrArg List.length hD.out; simpa using this
        exact ⟨some ⟨w.heap.size, 0, none⟩, l.length, done, by rw [hl]; rfl, (hF.out.row hl hbig (Nat.le_refl _)), hD.out, fun _ => ⟨w.heap.size, rfl, by rw [hl]; exact hF.out.blk⟩, hbel.out⟩
end Go.Proofs.Ytciipggccjiaiaa
