/- Carried over from an earlier seat. -/
import Derived.Test.YtllkimdlmnjoiaaGreatDoorPI
import Derived.IntWalk
namespace Go.Proofs.YtllkimdlmnjoiaaGreatDoor
set_option maxRecDepth 100000
set_option maxRecDepth 100000
set_option maxRecDepth 100000
set_option maxRecDepth 100000
open Go.RowKit Go.Sort

/-- What Count answers of any value: never so much that it is lost. -/
def AllPost (w : World) (most : Int) (e : Ending) (w' : World) : Prop := ∃ c : Int, e = .returned (.int .i64 c) ∧ 1 ≤ c ∧ c ≤ most * 7036874417770 ∧ Below w.heap.size w w'
def AllOk (d : Nat) : Prop := ∀ (w : World) (x : At) (most : Int), 1 ≤ most → most ≤ 400 → x.In w d →
  Calls Tryz.prog 32 #[x.v, .int .i64 most] w (AllPost w most)

set_option maxHeartbeats 3200000 in
theorem all_succ (d' : Nat) (ih : AllOk d') : AllOk (d' + 1) := by
  intro w x most hm0 hm1 hx
  have HSZ : x.t.s.size ≤ 140737488355328 := hx.1.s1
  have RL := Lib.hid hx.2.1
  have RM := Lib.hid hx.2.2
  have hbl := hx.2.1.big
  have hbm := hx.2.2.big
  have IH := Lib.hid ih
  clear hx ih
  unfold At.v
  go_enter Tryz.func32, Tryz.ntmps32
  go_wp2
  have k1 := Box.new w x.t x.A x.c x.A' x.c'
  generalize hW : World.alloc w _ = W
  have K1 : Hid (Box W w.heap.size x.t x.A x.c x.A' x.c') := Lib.hid (by rw [← hW]; exact k1)
  have HB : Hid (Below w.heap.size w W) := Lib.hid (by rw [← hW]; exact below_new _ _)
  have hz : w.heap.size < W.heap.size := by rw [← hW]; simp
  clear hW k1
  go_loopw [5, 6] (fun u i wr => ∃ (k : Nat) (y : Int), k ≤ x.t.l.length ∧ i = .int .i64 k ∧ u = .int .i64 y ∧ 1 ≤ y ∧ y ≤ (most - 1) * 7036874417770 + 1 ∧ Hid (Below W.heap.size W wr)) (fun _ i _ => x.t.l.length - (intOf i).toNat)
  case atStart => exact ⟨0, 1, by omega, rfl, rfl, by omega, by omega, Lib.hid (Below.refl _ _)⟩
  case round =>
    obtain ⟨k, y, hk, rfl, rfl, hy0, hy1, hbel⟩ := hrel
    obtain ⟨c0, c1, c2, c3, c4⟩ := K1.out.below hbel.out hz
    by_cases hlt : k < x.t.l.length
    · by_cases hm : y < most
      · obtain ⟨b, off, z, A1, e1, A2, e2, hA, _, hb, hzz, q, rz⟩ := (RL.out.next (bnext HB.out hbel.out)).elem hlt
        rw [hA] at c3
        obtain ⟨q0, q1, q2, q3, q4⟩ := q
        have RZ := Lib.hid rz
        clear rz hA
        have i1 : IntKind.i64.wrap (most - y) = most - y := IntWalk.i64_in _ (by omega)
        have i1' : wrap64 (most - y) = most - y := by unfold wrap64; omega
        have k0 : (0 : Int) ≤ (k : Int) := by omega
        have k2 : (k : Int) < (x.t.l.length : Int) := by omega
        go_wp2_with fail
        refine (IH.out _ ⟨z, A1, e1, A2, e2⟩ (most - y) (by omega) (by omega) RZ.out).mono ?_
        rintro e w2 ⟨c, rfl, hc0, hc1, hbc⟩
        have BB := Lib.hid (bnext hbel.out hbc)
        clear hbc i1 i1' c0 c1 c2 c3 c4 q0 q1 q2 q3 q4
        have i2 : IntKind.i64.wrap (y + c) = y + c := IntWalk.i64_in _ (by omega)
        have i2' : wrap64 (y + c) = y + c := by unfold wrap64; omega
        go_wp2
        go_roundw
        case rel => exact ⟨k + 1, y + c, by omega, by go_num, rfl, by omega, by omega, BB⟩
        case measure => simp [intOf]; omega
      · skip
        have hm' : most ≤ y := by omega
        go_wp2
        clear c0 c1 c2 c3 c4
        go_loopw [5, 7] (fun u i wx => ∃ (k2 : Nat) (y2 : Int), k2 ≤ x.t.m.length ∧ i = .int .i64 k2 ∧ u = .int .i64 y2 ∧ 1 ≤ y2 ∧ y2 ≤ (most - 1) * 7036874417770 + 1 ∧ Hid (Below W.heap.size W wx)) (fun _ i _ => x.t.m.length - (intOf i).toNat)
        case atStart => exact ⟨0, y, by omega, rfl, rfl, hy0, hy1, hbel⟩
        case round =>
          clear hy0 hy1
          obtain ⟨k2, y2, hk2, rfl, rfl, hz0, hz1, hbel2⟩ := hrel
          obtain ⟨c0, c1, c2, c3, c4⟩ := K1.out.below hbel2.out hz
          by_cases hlt2 : k2 < x.t.m.length
          · by_cases hm2 : y2 < most
            · obtain ⟨b, off, z, A1, e1, A2, e2, hA, _, hb, hzz, q, rz⟩ := (RM.out.next (bnext HB.out hbel2.out)).elem hlt2
              rw [hA] at c4
              obtain ⟨q0, q1, q2, q3, q4⟩ := q
              have RZ := Lib.hid rz
              clear rz hA
              have i1 : IntKind.i64.wrap (most - y2) = most - y2 := IntWalk.i64_in _ (by omega)
              have i1' : wrap64 (most - y2) = most - y2 := by unfold wrap64; omega
              have k0 : (0 : Int) ≤ (k2 : Int) := by omega
              have k3 : (k2 : Int) < (x.t.m.length : Int) := by omega
              go_wp2_with fail
              refine (IH.out _ ⟨z, A1, e1, A2, e2⟩ (most - y2) (by omega) (by omega) RZ.out).mono ?_
              rintro e w2 ⟨c, rfl, hc0, hc1, hbc⟩
              have BB := Lib.hid (bnext hbel2.out hbc)
              clear hbc i1 i1' c0 c1 c2 c3 c4 q0 q1 q2 q3 q4
              have i2 : IntKind.i64.wrap (y2 + c) = y2 + c := IntWalk.i64_in _ (by omega)
              have i2' : wrap64 (y2 + c) = y2 + c := by unfold wrap64; omega
              go_wp2
              go_roundw
              case rel => exact ⟨k2 + 1, y2 + c, by omega, by go_num, rfl, by omega, by omega, BB⟩
              case measure => simp [intOf]; omega
            · have hm2' : most ≤ y2 := by omega
              go_wp2
              go_ret
              exact ⟨y2 + (x.t.s.size : Int) / 20, rfl, by omega, by omega, bnext HB.out hbel2.out⟩
          · go_wp2
            go_ret
            exact ⟨y2 + (x.t.s.size : Int) / 20, rfl, by omega, by omega, bnext HB.out hbel2.out⟩
    · skip
      go_wp2
      clear c0 c1 c2 c3 c4
      go_loopw [5, 7] (fun u i wx => ∃ (k2 : Nat) (y2 : Int), k2 ≤ x.t.m.length ∧ i = .int .i64 k2 ∧ u = .int .i64 y2 ∧ 1 ≤ y2 ∧ y2 ≤ (most - 1) * 7036874417770 + 1 ∧ Hid (Below W.heap.size W wx)) (fun _ i _ => x.t.m.length - (intOf i).toNat)
      case atStart => exact ⟨0, y, by omega, rfl, rfl, hy0, hy1, hbel⟩
      case round =>
        clear hy0 hy1
        obtain ⟨k2, y2, hk2, rfl, rfl, hz0, hz1, hbel2⟩ := hrel
        obtain ⟨c0, c1, c2, c3, c4⟩ := K1.out.below hbel2.out hz
        by_cases hlt2 : k2 < x.t.m.length
        · by_cases hm2 : y2 < most
          · obtain ⟨b, off, z, A1, e1, A2, e2, hA, _, hb, hzz, q, rz⟩ := (RM.out.next (bnext HB.out hbel2.out)).elem hlt2
            rw [hA] at c4
            obtain ⟨q0, q1, q2, q3, q4⟩ := q
            have RZ := Lib.hid rz
            clear rz hA
            have i1 : IntKind.i64.wrap (most - y2) = most - y2 := IntWalk.i64_in _ (by omega)
            have i1' : wrap64 (most - y2) = most - y2 := by unfold wrap64; omega
            have k0 : (0 : Int) ≤ (k2 : Int) := by omega
            have k3 : (k2 : Int) < (x.t.m.length : Int) := by omega
            go_wp2_with fail
            refine (IH.out _ ⟨z, A1, e1, A2, e2⟩ (most - y2) (by omega) (by omega) RZ.out).mono ?_
            rintro e w2 ⟨c, rfl, hc0, hc1, hbc⟩
            have BB := Lib.hid (bnext hbel2.out hbc)
            clear hbc i1 i1' c0 c1 c2 c3 c4 q0 q1 q2 q3 q4
            have i2 : IntKind.i64.wrap (y2 + c) = y2 + c := IntWalk.i64_in _ (by omega)
            have i2' : wrap64 (y2 + c) = y2 + c := by unfold wrap64; omega
            go_wp2
            go_roundw
            case rel => exact ⟨k2 + 1, y2 + c, by omega, by go_num, rfl, by omega, by omega, BB⟩
            case measure => simp [intOf]; omega
          · have hm2' : most ≤ y2 := by omega
            go_wp2
            go_ret
            exact ⟨y2 + (x.t.s.size : Int) / 20, rfl, by omega, by omega, bnext HB.out hbel2.out⟩
        · go_wp2
          go_ret
          exact ⟨y2 + (x.t.s.size : Int) / 20, rfl, by omega, by omega, bnext HB.out hbel2.out⟩

theorem all_any : ∀ d, AllOk d
  | 0 => fun _ _ _ _ _ h => h.elim
  | d + 1 => all_succ d (all_any d)

set_option maxHeartbeats 1600000 in
theorem manyB_any (w : World) (d : Nat) (A : Option Addr) (c : Nat) (l : List V) (h : Rw w 0 w.heap.size d A c l) (most : Int) (hm0 : 1 ≤ most) (hm1 : most ≤ 400) :
    Calls Tryz.prog 54 #[.slice A l.length c, .int .i64 most] w fun e w' => ∃ n : Int, e = .returned (.int .i64 n) ∧ 0 ≤ n ∧ n ≤ most * 7036874417770 ∧ Below w.heap.size w w' := by
  have H := Lib.hid h
  have hbl := h.big
  clear h
  go_enter Tryz.func54, Tryz.ntmps54
  go_wp2
  go_loopw [5, 6] (fun u i wr => ∃ (k : Nat) (y : Int), k ≤ l.length ∧ i = .int .i64 k ∧ u = .int .i64 y ∧ 0 ≤ y ∧ y ≤ most * 7036874417770 ∧ Hid (Below w.heap.size w wr)) (fun _ i _ => l.length - (intOf i).toNat)
  case atStart => exact ⟨0, 0, by omega, rfl, rfl, by omega, by omega, Lib.hid (Below.refl _ _)⟩
  case round =>
    obtain ⟨k, y, hk, rfl, rfl, hx0, hx1, hbel⟩ := hrel
    by_cases hlt : k < l.length
    · by_cases hm : y < most
      · obtain ⟨b, off, z, A1, e1, A2, e2, rfl, _, hb, hzz, q, rz⟩ := (H.out.next hbel.out).elem hlt
        obtain ⟨q0, q1, q2, q3, q4⟩ := q
        have RZ := Lib.hid rz
        clear rz hzz
        have i1 : IntKind.i64.wrap (most - y) = most - y := IntWalk.i64_in _ (by omega)
        have k0 : (0 : Int) ≤ (k : Int) := by omega
        have k2 : (k : Int) < (l.length : Int) := by omega
        go_wp2_with fail
        refine (all_any d _ ⟨z, A1, e1, A2, e2⟩ (most - y) (by omega) (by omega) RZ.out).mono ?_
        rintro e w2 ⟨c, rfl, hc0, hc1, hbc⟩
        have BB := Lib.hid (bnext hbel.out hbc)
        clear hbc i1 q0 q1 q2 q3 q4
        have i2 : IntKind.i64.wrap (y + c) = y + c := IntWalk.i64_in _ (by omega)
        go_wp2
        go_roundw
        case rel => exact ⟨k + 1, y + c, by omega, by go_num, rfl, by omega, by omega, BB⟩
        case measure => simp [intOf]; omega
      · have hm' : most ≤ y := by omega
        go_wp2
        go_ret
        exact ⟨y, rfl, hx0, hx1, hbel.out⟩
    · go_wp2
      go_ret
      exact ⟨y, rfl, hx0, hx1, hbel.out⟩

/-- What the document's Count answers of any predicate. -/
def CntPost (w : World) (most : Int) (e : Ending) (w' : World) : Prop := ∃ c : Int, e = .returned (.int .i64 c) ∧ 1 ≤ c ∧ c ≤ 1 + most * 7036874417770 ∧ Below w.heap.size w w'
def CntPOk (d : Nat) : Prop := ∀ (w : World) (x : Pt) (most : Int), 1 ≤ most → most ≤ 400 → x.In w d → Calls Tryz.prog 33 #[x.val, .int .i64 most] w (CntPost w most)
set_option maxHeartbeats 1600000 in
theorem cntP_succ (d : Nat) (ih : CntPOk d) : CntPOk (d + 1) := by
  intro w x most hm0 hm1 hx
  obtain ⟨n, rv⟩ := hx.2.1
  have RV := Lib.hid rv
  have RP := Lib.hid hx.2.2
  have hbig := hx.2.2.big
  have IH := Lib.hid ih
  clear hx ih rv
  unfold Pt.val
  go_enter Tryz.func33, Tryz.ntmps33
  go_upto_region 1 with fail
  have k1 := BP.new w x
  generalize hW : World.alloc w _ = W
  have K1 : Hid (BP W w.heap.size x) := Lib.hid (by rw [← hW]; exact k1)
  have HB : Hid (Below w.heap.size w W) := Lib.hid (by rw [← hW]; exact below_new _ _)
  obtain ⟨a0, a1, a2, _⟩ := K1.out
  clear hW k1
  go_wp2_with fail
  refine (manyB_any W n x.A x.c x.t.v (RV.out.next HB.out) most hm0 hm1).mono ?_
  rintro e w1 ⟨m, rfl, h0, h1, hb1⟩
  have B1 := Lib.hid (bnext HB.out hb1)
  have K2 := Lib.hid (K1.out.next hb1)
  clear a0 a1 a2 hb1
  have i1 : IntKind.i64.wrap (1 + m) = 1 + m := IntWalk.i64_in _ (by omega)
  go_wp2
  clear i1
  go_loopw [5, 6] (fun u i wr => ∃ (k : Nat) (y : Int), k ≤ x.t.p.length ∧ i = .int .i64 k ∧ u = .int .i64 y ∧ 1 ≤ y ∧ y ≤ 1 + most * 7036874417770 ∧ Hid (Below w1.heap.size w1 wr)) (fun _ i _ => x.t.p.length - (intOf i).toNat)
  case atStart => exact ⟨0, 1 + m, by omega, rfl, by go_num, by omega, by omega, Lib.hid (Below.refl _ _)⟩
  case round =>
    obtain ⟨k, y, hk, rfl, rfl, hy0, hy1, hbel⟩ := hrel
    obtain ⟨a0, a1, a2, _⟩ := K2.out.next hbel.out
    by_cases hlt : k < x.t.p.length
    · by_cases hm : y < most
      · obtain ⟨b, off, z, eA, _, hb, hzz, q, rz⟩ := (RP.out.next (bnext B1.out hbel.out)).elem hlt
        rw [eA] at a2
        obtain ⟨q0, q1, q2⟩ := q
        have RZ := Lib.hid rz
        clear rz hzz eA
        have i1 : IntKind.i64.wrap (most - y) = most - y := IntWalk.i64_in _ (by omega)
        have k0 : (0 : Int) ≤ (k : Int) := by omega
        have k2 : (k : Int) < (x.t.p.length : Int) := by omega
        go_wp2_with fail
        refine (IH.out _ z (most - y) (by omega) (by omega) RZ.out).mono ?_
        rintro e w2 ⟨c, rfl, hc0, hc1, hbc⟩
        have BB := Lib.hid (bnext hbel.out hbc)
        clear hbc i1 q0 q1 q2 a0 a1 a2
        have i2 : IntKind.i64.wrap (y + c) = y + c := IntWalk.i64_in _ (by omega)
        go_wp2
        go_roundw
        case rel => exact ⟨k + 1, y + c, by omega, by go_num, rfl, by omega, by omega, BB⟩
        case measure => simp [intOf]; omega
      · have hm' : most ≤ y := by omega
        go_wp2
        go_ret
        exact ⟨y, rfl, hy0, hy1, bnext B1.out hbel.out⟩
    · go_wp2
      go_ret
      exact ⟨y, rfl, hy0, hy1, bnext B1.out hbel.out⟩
theorem cntP_any : ∀ d, CntPOk d
  | 0 => fun _ _ _ _ _ h => h.elim
  | d + 1 => cntP_succ d (cntP_any d)

end Go.Proofs.YtllkimdlmnjoiaaGreatDoor




