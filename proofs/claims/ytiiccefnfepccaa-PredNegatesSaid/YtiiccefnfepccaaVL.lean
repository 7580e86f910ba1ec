/- Carried over from an earlier seat. -/
import Derived.Test.YtiiccefnfepccaaVG
namespace Go.Proofs.Ytiiccefnfepccaa
set_option maxRecDepth 100000
set_option maxRecDepth 100000
open Go.RowKit

end Go.Proofs.Ytiiccefnfepccaa

namespace Go.Proofs.Ytiiccefnfepccaa
set_option maxRecDepth 100000
set_option maxRecDepth 100000
open Go.RowKit

end Go.Proofs.Ytiiccefnfepccaa

namespace Go.Proofs.Ytiiccefnfepccaa
set_option maxRecDepth 100000
set_option maxRecDepth 100000
open Go.RowKit

theorem wrap_in (z : Int) : -9223372036854775808 ≤ wrap64 z ∧ wrap64 z ≤ 9223372036854775807 := by unfold wrap64; omega
def IntPost (w : World) (e : Ending) (w' : World) : Prop := ∃ c : Int, e = .returned (.int .i64 c) ∧ -9223372036854775808 ≤ c ∧ c ≤ 9223372036854775807 ∧ Below w.heap.size w w'
def CountOk (d : Nat) : Prop := ∀ (w : World) (t : V) (A : Option Addr) (c : Nat) (A' : Option Addr) (c' : Nat) (most : Int), -9223372036854775808 ≤ most → most ≤ 9223372036854775807 → Rd w 0 w.heap.size d t A c A' c' →
  Calls Try.prog 36 #[vl t A c A' c', .int .i64 most] w (IntPost w)

set_option maxHeartbeats 3200000 in
theorem count_succ (d : Nat) (ih : CountOk d) : CountOk (d + 1) := by
  intro w t A c A' c' most hm0 hm1 ra
  have hs1 := ra.1.s1
  have RL := Lib.hid ra.2.1
  have RM := Lib.hid ra.2.2
  have hbl := ra.2.1.big
  have hbm := ra.2.2.big
  have IH := Lib.hid ih
  clear ra ih
  unfold vl
  go_enter Try.func36, Try.ntmps36
  go_wp2
  have k1 := Box.new w t A c A' c'
  generalize hW : World.alloc w _ = W
  have K1 : Hid (Box W w.heap.size t A c A' c') := Lib.hid (by rw [← hW]; exact k1)
  have HB : Hid (Below w.heap.size w W) := Lib.hid (by rw [← hW]; exact below_new _ _)
  have hz : w.heap.size < W.heap.size := by rw [← hW]; simp
  clear hW k1
  go_loopw [5, 6] (fun u i wr => ∃ (k : Nat) (x : Int), k ≤ t.l.length ∧ i = .int .i64 k ∧ u = .int .i64 x ∧ -9223372036854775808 ≤ x ∧ x ≤ 9223372036854775807 ∧ Hid (Below W.heap.size W wr)) (fun _ i _ => t.l.length - (intOf i).toNat)
  case atStart => exact ⟨0, 1, by omega, rfl, rfl, by omega, by omega, Lib.hid (Below.refl _ _)⟩
  case round =>
    obtain ⟨k, x, hk, rfl, rfl, hx0, hx1, hbel⟩ := hrel
    obtain ⟨c0, c1, c2, c3, c4⟩ := K1.out.below hbel.out hz
    by_cases hlt : k < t.l.length
    · by_cases hm : x < most
      · obtain ⟨b, off, z, A1, e1, A2, e2, rfl, _, hb, hzz, q, rz⟩ := (RL.out.next (bnext HB.out hbel.out)).elem hlt
        obtain ⟨q0, q1, q2, q3, q4⟩ := q
        have RZ := Lib.hid rz
        clear rz hzz
        go_wp2_with fail
        refine (IH.out _ z _ _ _ _ _ (wrap_in _).1 (wrap_in _).2 RZ.out).mono ?_
        rintro e w2 ⟨c, rfl, hc0, hc1, hbc⟩
        have BB := Lib.hid (bnext hbel.out hbc)
        clear hbc
        go_wp2
        go_roundw
        case rel => exact ⟨k + 1, wrap64 (x + c), by omega, by go_num, rfl, (wrap_in _).1, (wrap_in _).2, BB⟩
        case measure => simp [intOf]; omega
      · have hm' : most ≤ x := by omega
        go_wp2
        clear c0 c1 c2 c3 c4
        go_loopw [5, 7] (fun u i wx => ∃ (k : Nat) (x : Int), k ≤ t.m.length ∧ i = .int .i64 k ∧ u = .int .i64 x ∧ -9223372036854775808 ≤ x ∧ x ≤ 9223372036854775807 ∧ Hid (Below W.heap.size W wx)) (fun _ i _ => t.m.length - (intOf i).toNat)
        case atStart => exact ⟨0, x, by omega, rfl, rfl, hx0, hx1, hbel⟩
        case round =>
          obtain ⟨k2, x2, hk2, rfl, rfl, hy0, hy1, hbel2⟩ := hrel
          obtain ⟨a0, a1, a2, a3, a4⟩ := K1.out.below hbel2.out hz
          by_cases hlt2 : k2 < t.m.length
          · by_cases hm2 : x2 < most
            · obtain ⟨b2, off2, z2, B1, e1, B2, e2, rfl, _, hb2, hzz2, q2, rz2⟩ := (RM.out.next (bnext HB.out hbel2.out)).elem hlt2
              obtain ⟨r0, r1, r2, r3, r4⟩ := q2
              have RZ := Lib.hid rz2
              clear rz2 hzz2
              go_wp2_with fail
              refine (IH.out _ z2 _ _ _ _ _ (wrap_in _).1 (wrap_in _).2 RZ.out).mono ?_
              rintro e w2 ⟨c, rfl, hc0, hc1, hbc⟩
              have BB := Lib.hid (bnext hbel2.out hbc)
              clear hbc
              go_wp2
              go_roundw
              case rel => exact ⟨k2 + 1, wrap64 (x2 + c), by omega, by go_num, rfl, (wrap_in _).1, (wrap_in _).2, BB⟩
              case measure => simp [intOf]; omega
            · have hm2' : most ≤ x2 := by omega
              go_wp2
              go_ret
              exact ⟨_, rfl, (wrap_in _).1, (wrap_in _).2, bnext HB.out hbel2.out⟩
          · go_wp2
            go_ret
            exact ⟨_, rfl, (wrap_in _).1, (wrap_in _).2, bnext HB.out hbel2.out⟩
    · go_wp2
      clear c0 c1 c2 c3 c4
      go_loopw [5, 7] (fun u i wx => ∃ (k : Nat) (x : Int), k ≤ t.m.length ∧ i = .int .i64 k ∧ u = .int .i64 x ∧ -9223372036854775808 ≤ x ∧ x ≤ 9223372036854775807 ∧ Hid (Below W.heap.size W wx)) (fun _ i _ => t.m.length - (intOf i).toNat)
      case atStart => exact ⟨0, x, by omega, rfl, rfl, hx0, hx1, hbel⟩
      case round =>
        obtain ⟨k2, x2, hk2, rfl, rfl, hy0, hy1, hbel2⟩ := hrel
        obtain ⟨a0, a1, a2, a3, a4⟩ := K1.out.below hbel2.out hz
        by_cases hlt2 : k2 < t.m.length
        · by_cases hm2 : x2 < most
          · obtain ⟨b2, off2, z2, B1, e1, B2, e2, rfl, _, hb2, hzz2, q2, rz2⟩ := (RM.out.next (bnext HB.out hbel2.out)).elem hlt2
            obtain ⟨r0, r1, r2, r3, r4⟩ := q2
            have RZ := Lib.hid rz2
            clear rz2 hzz2
            go_wp2_with fail
            refine (IH.out _ z2 _ _ _ _ _ (wrap_in _).1 (wrap_in _).2 RZ.out).mono ?_
            rintro e w2 ⟨c, rfl, hc0, hc1, hbc⟩
            have BB := Lib.hid (bnext hbel2.out hbc)
            clear hbc
            go_wp2
            go_roundw
            case rel => exact ⟨k2 + 1, wrap64 (x2 + c), by omega, by go_num, rfl, (wrap_in _).1, (wrap_in _).2, BB⟩
            case measure => simp [intOf]; omega
          · have hm2' : most ≤ x2 := by omega
            go_wp2
            go_ret
            exact ⟨_, rfl, (wrap_in _).1, (wrap_in _).2, bnext HB.out hbel2.out⟩
        · go_wp2
          go_ret
          exact ⟨_, rfl, (wrap_in _).1, (wrap_in _).2, bnext HB.out hbel2.out⟩

theorem count_any : ∀ d, CountOk d
  | 0 => fun _ _ _ _ _ _ _ _ _ h => h.elim
  | d + 1 => count_succ d (count_any d)

set_option maxHeartbeats 1600000 in
theorem many_any (w : World) (d : Nat) (A : Option Addr) (c : Nat) (l : List V) (h : Rw w 0 w.heap.size d A c l) (most : Int) (_hm0 : -9223372036854775808 ≤ most) (_hm1 : most ≤ 9223372036854775807) :
    Calls Try.prog 22 #[.slice A l.length c, .int .i64 most] w (IntPost w) := by
  have H := Lib.hid h
  have hbl := h.big
  clear h
  go_enter Try.func22, Try.ntmps22
  go_wp2
  go_loopw [5, 6] (fun u i wr => ∃ (k : Nat) (x : Int), k ≤ l.length ∧ i = .int .i64 k ∧ u = .int .i64 x ∧ -9223372036854775808 ≤ x ∧ x ≤ 9223372036854775807 ∧ Hid (Below w.heap.size w wr)) (fun _ i _ => l.length - (intOf i).toNat)
  case atStart => exact ⟨0, 0, by omega, rfl, rfl, by omega, by omega, Lib.hid (Below.refl _ _)⟩
  case round =>
    obtain ⟨k, x, hk, rfl, rfl, hx0, hx1, hbel⟩ := hrel
    by_cases hlt : k < l.length
    · by_cases hm : x < most
      · obtain ⟨b, off, z, A1, e1, A2, e2, rfl, _, hb, hzz, q, rz⟩ := (H.out.next hbel.out).elem hlt
        obtain ⟨q0, q1, q2, q3, q4⟩ := q
        have RZ := Lib.hid rz
        clear rz hzz
        go_wp2_with fail
        refine (count_any d _ z _ _ _ _ _ (wrap_in _).1 (wrap_in _).2 RZ.out).mono ?_
        rintro e w2 ⟨c, rfl, hc0, hc1, hbc⟩
        have BB := Lib.hid (bnext hbel.out hbc)
        clear hbc
        go_wp2
        go_roundw
        case rel => exact ⟨k + 1, wrap64 (x + c), by omega, by go_num, rfl, (wrap_in _).1, (wrap_in _).2, BB⟩
        case measure => simp [intOf]; omega
      · have hm' : most ≤ x := by omega
        go_wp2
        go_ret
        exact ⟨x, rfl, hx0, hx1, hbel.out⟩
    · go_wp2
      go_ret
      exact ⟨x, rfl, hx0, hx1, hbel.out⟩

end Go.Proofs.Ytiiccefnfepccaa


