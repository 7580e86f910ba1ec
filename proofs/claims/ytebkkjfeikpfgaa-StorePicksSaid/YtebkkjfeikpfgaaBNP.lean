/- Carried over from an earlier seat. -/
import Derived.Test.YtebkkjfeikpfgaaBNO
import Derived.Test.YtebkkjfeikpfgaaBXB
import Derived.Deep.CutBlock
namespace Go.Proofs.Ytebkkjfeikpfgaa
set_option maxRecDepth 100000
open Go.RowKit Go.Sort
set_option maxRecDepth 100000

def InI (x : Int) : Prop := -9223372036854775808 ≤ x ∧ x ≤ 9223372036854775807
theorem wrap_ini (z : Int) : InI (wrap64 z) := wrap_in z
set_option maxHeartbeats 8000000 in
theorem gcount_any (w : World) (d : Nat) (g : GA) (hg : g.In w d) (most : Int) (hm : InI most) : Calls Try.prog 28 #[g.v, .int .i64 most] w (IntPost w) := by
  have HG := Lib.hid hg
  have HM := Lib.hid hm
  have hbv := hg.v.big
  have hbe := hg.e.big
  clear hg hm
  go_enter Try.func28, Try.ntmps28
  go_upto_region 1 with fail
  generalize hW : World.alloc w _ = W
  obtain ⟨z0, z1, hbW, hsW⟩ := box24 w _ _ W hW
  have HBW := Lib.hid hbW
  have hgW : w.heap.size < W.heap.size := by omega
  clear hW hbW hsW
  go_wp2_with fail
  go_loopw [5, 6] (fun u i wr => ∃ (k : Nat) (x : Int), k ≤ g.vs.length + g.es.length ∧ i = .int .i64 k ∧ u = .int .i64 x ∧ Hid (InI x) ∧ Hid (Below W.heap.size W wr)) (fun _ i _ => g.vs.length + g.es.length - (intOf i).toNat)
  case atStart => exact ⟨0, _, by omega, rfl, rfl, Lib.hid (by unfold InI; omega), Lib.hid (Below.refl _ _)⟩
  case round =>
    obtain ⟨k, x, hk, rfl, rfl, hx, hbel⟩ := hrel
    have y0 := cell_below hbel.out z0 hgW
    have y1 := cell_below hbel.out z1 hgW
    have hk0 : (0 : Int) ≤ (k : Int) := by omega
    have hsum : wrap64 ((g.vs.length : Int) + (g.es.length : Int)) = ((g.vs.length + g.es.length : Nat) : Int) := by unfold wrap64; omega
    by_cases hlt : k < g.vs.length + g.es.length
    · have hlt1 : (k : Int) < ((g.vs.length + g.es.length : Nat) : Int) := by omega
      by_cases hmx : x < most
      · have HT := Lib.hid (HG.out.v.next HBW.out)
        have HE := Lib.hid (HG.out.e.next HBW.out)
        go_upto_region 6 with fail
        have kb := CellT.new wr (.int .i64 0) (.string ⟨#[]⟩) (.int .i64 0) (.int .i64 0) (.slice none 0 0)
        generalize hX : World.alloc wr _ = X at kb
        have hbX : Below W.heap.size W X := by rw [← hX]; exact bnext hbel.out (below_new _ _)
        have hsX : W.heap.size ≤ wr.heap.size := hbel.out.size
        have HBX := Lib.hid hbX
        have x0 := cell_below hbX z0 hgW
        have x1 := cell_below hbX z1 hgW
        generalize hg7 : wr.heap.size = g7 at kb hsX
        have KB := Lib.hid kb
        clear hX hg7 hbX y0 y1
        go_upto_if 37 with fail
        go_cut [5] (fun u wx => u = .int .i64 x ∧ ∃ t : TA, Hid (CellT wx g7 (.int .i64 t.id) (.string t.label) (.int .i64 t.o) (.int .i64 t.i) (.slice t.A t.l.length t.c)) ∧ Hid (PRow wx 0 d t.A t.c t.l) ∧ Hid (Below W.heap.size W wx))
        case first =>
          obtain ⟨b0, b1, b2, b3, b4, f0, f1, f2, f3, f4, blk⟩ := kb
          by_cases hv : k < g.vs.length
          · obtain ⟨b, off, t, eA, hb, ht, q5, rx⟩ := (HT.out.next HBX.out).elem hv
            obtain ⟨q0, q1, q2, q3, q4⟩ := q5
            rw [eA] at x0
            clear eA
            have RX := Lib.hid (HT.out.vals t (List.mem_of_getElem? ht))
            have kl : (k : Int) < (g.vs.length : Int) := by omega
            have BLK := Lib.hid blk
            clear ht rx blk
            go_wp2_with fail
            go_meet
            have hF := put5_below W.heap.size X g7 0 (.int .i64 t.id) (.string t.label) (.int .i64 t.o) (.int .i64 t.i) (.slice t.A t.l.length t.c) hsX
            exact ⟨rfl, t, Lib.hid (fin5T BLK.out _ _ _ _ _), Lib.hid (RX.out.next (HBX.out.trans hF)), Lib.hid (HBX.out.trans hF)⟩
          · have hv2 : k - g.vs.length < g.es.length := by omega
            obtain ⟨b, off, t, eA, hb, ht, q5, rx⟩ := (HE.out.next HBX.out).elem hv2
            obtain ⟨q0, q1, q2, q3, q4⟩ := q5
            rw [eA] at x1
            clear eA
            have RX := Lib.hid (HE.out.vals t (List.mem_of_getElem? ht))
            have kl : ¬ (k : Int) < (g.vs.length : Int) := by omega
            have ki : (k : Int) - (g.vs.length : Int) = ((k - g.vs.length : Nat) : Int) := by omega
            have kw : wrap64 ((k : Int) - (g.vs.length : Int)) = ((k - g.vs.length : Nat) : Int) := by unfold wrap64; omega
            have kb0 : ((k - g.vs.length : Nat) : Int) < (g.es.length : Int) := by omega
            have BLK := Lib.hid blk
            clear ht rx blk
            go_wp2_with fail
            go_meet
            have hF := put5_below W.heap.size X g7 0 (.int .i64 t.id) (.string t.label) (.int .i64 t.o) (.int .i64 t.i) (.slice t.A t.l.length t.c) hsX
            exact ⟨rfl, t, Lib.hid (fin5T BLK.out _ _ _ _ _), Lib.hid (RX.out.next (HBX.out.trans hF)), Lib.hid (HBX.out.trans hF)⟩
        case rest =>
          obtain ⟨rfl, t, K7, PR, HB7⟩ := hcut
          clear kb KB x0 x1 HBX
          obtain ⟨c0, c1, c2, c3, c4, _⟩ := K7.out
          go_wp2_with fail
          go_loopw [5, 8] (fun u i wx => ∃ (j : Nat) (y : Int), j ≤ t.l.length ∧ i = .int .i64 j ∧ u = .int .i64 y ∧ Hid (InI y) ∧ Hid (Below wc.heap.size wc wx)) (fun _ i _ => t.l.length - (intOf i).toNat)
          case atStart => exact ⟨0, _, by omega, rfl, rfl, Lib.hid (by first | exact wrap_ini _ | (unfold InI; omega)), Lib.hid (Below.refl _ _)⟩
          case round =>
            obtain ⟨j, y, hj, rfl, rfl, hy, hbj⟩ := hrel
            have hbig := PR.out.big
            have K7n := Lib.hid (K7.out.next hbj.out)
            have HBn := Lib.hid (HB7.out.trans (hbj.out.mono HB7.out.size))
            clear c0 c1 c2 c3 c4
            obtain ⟨c0, c1, c2, c3, c4, _⟩ := K7n.out
            by_cases hjt : j < t.l.length
            · by_cases hym : y < most
              · obtain ⟨b, off, p, eA, hb, hp, q6, rx⟩ := (PR.out.next hbj.out).elem hjt
                obtain ⟨q0, q1, q2, q3, q4, q5⟩ := q6
                rw [eA] at c4
                clear eA hp
                have j0 : (0 : Int) ≤ (j : Int) := by omega
                have j1 : (j : Int) < (t.l.length : Int) := by omega
                have hg7 : g7 < wr.heap.size := K7n.out.blk.lt
                have CN := Lib.hid (fun (Y : World) (hY : Below wr.heap.size wr Y) => count_any d Y p.x.t p.x.A p.x.c p.x.A' p.x.c' most HM.out.1 HM.out.2 (rx.next hY))
                clear rx
                go_upto_region 13 with fail
                go_region_with (go_at_call 44; (with_reducible refine (CN.out _ ?_).mono ?_); (focus exact (Below.refl _ _).drew); rintro e w2 ⟨n2, rfl, hn0, hn1, hb0⟩; have hb2 : Below wr.heap.size wr w2 := (Below.refl _ _).drew.trans hb0; have e4 := cell_below hb2 c4 hg7; have r0 := cell_below hb2 q0 hb; have B2 := Lib.hid (bnext hbj.out hb2); clear hb0 hb2)
                all_goals
                  go_wp2
                  go_roundw
                  case rel => exact ⟨j + 1, _, by omega, by go_num, rfl, Lib.hid (wrap_ini _), B2⟩
                  case measure => simp [intOf]; omega
              · go_wp2
                go_roundw
                case rel => exact ⟨k + 1, y, by omega, by go_num, rfl, hy, HBn⟩
                case measure => simp [intOf]; omega
            · go_wp2
              go_roundw
              case rel => exact ⟨k + 1, y, by omega, by go_num, rfl, hy, HBn⟩
              case measure => simp [intOf]; omega
      · go_wp2
        go_ret
        exact ⟨_, rfl, hx.out.1, hx.out.2, bnext HBW.out hbel.out⟩
    · have hlt1 : ¬ (k : Int) < ((g.vs.length + g.es.length : Nat) : Int) := by omega
      go_wp2
      go_ret
      exact ⟨_, rfl, hx.out.1, hx.out.2, bnext HBW.out hbel.out⟩
end Go.Proofs.Ytebkkjfeikpfgaa
namespace Go.Proofs.Ytebkkjfeikpfgaa
set_option maxRecDepth 100000
open Go.RowKit Go.Sort
set_option maxRecDepth 100000

end Go.Proofs.Ytebkkjfeikpfgaa

