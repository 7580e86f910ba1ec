/- Contracts of the document's depth and Depth. -/
import Derived.Test.YtdolejafihgpmaaK
namespace Go.Proofs.Ytdolejafihgpmaa
open Go.RowKit

def RDep (r : Nat) : Prop :=
  ∀ (w : World) (da : Nat) (a : V) (A : Option Addr) (c : Nat) (A' : Option Addr) (c' : Nat) (more : Int), more = r → r ≤ 12 → Rd w 0 w.heap.size da a A c A' c' →
    Calls Try.prog 38 #[vl a A c A' c', .int .i64 more] w fun e w' => e = .returned (.int .i64 (depV r a)) ∧ Below w.heap.size w w'

set_option maxHeartbeats 3200000 in
theorem rdep_zero : RDep 0 := by
  intro w da a A c A' c' more hm _ ra
  obtain rfl : more = 0 := hm
  obtain ⟨da', rfl⟩ := ra.pos
  have hbl := ra.2.1.big
  have hbm := ra.2.2.big
  clear ra
  unfold vl
  go_enter Try.func38, Try.ntmps38
  go_wp2
  go_loopw [5, 6] (fun v i wr => v = .int .i64 0 ∧ i = .int .i64 0 ∧ wr = w.alloc (.cells #[.int .i64 a.k, .int .i64 a.n, .string a.s, .slice A a.l.length c, .slice A' a.m.length c'] 24)) (fun _ _ _ => 0)
  case atStart => exact ⟨rfl, rfl, rfl⟩
  case round =>
    obtain ⟨rfl, rfl, rfl⟩ := hrel
    by_cases hl : 0 < a.l.length
    all_goals
      go_wp2
      go_loopw [5, 7] (fun v i wr => v = .int .i64 0 ∧ i = .int .i64 0 ∧ wr = w.alloc (.cells #[.int .i64 a.k, .int .i64 a.n, .string a.s, .slice A a.l.length c, .slice A' a.m.length c'] 24)) (fun _ _ _ => 0)
      case atStart => exact ⟨rfl, rfl, rfl⟩
      case round =>
        obtain ⟨rfl, rfl, rfl⟩ := hrel
        by_cases hl2 : 0 < a.m.length
        all_goals
          go_wp2
          go_ret
          exact ⟨ret_int rfl, below_new _ _⟩

set_option maxHeartbeats 3200000 in
theorem rdep_succ (r : Nat) (ih : RDep r) : RDep (r + 1) := by
  intro w da a A c A' c' more hm hr ra
  have hm0 : 0 < more := by omega
  have hm1 : more ≤ 12 := by omega
  have HM := Lib.hid (show more - 1 = r by omega)
  obtain ⟨da', rfl⟩ := ra.pos
  have RL := Lib.hid ra.2.1
  have RM := Lib.hid ra.2.2
  have hbl := ra.2.1.big
  have hbm := ra.2.2.big
  have IH := Lib.hid ih
  have HX := Lib.hid (maxL_le (depV r) (r + 1) (depV_le r))
  clear ra ih hm
  unfold vl
  go_enter Try.func38, Try.ntmps38
  go_wp2
  have k1 := Box.new w a A c A' c'
  generalize hW : World.alloc w _ = W
  have K1 : Hid (Box W w.heap.size a A c A' c') := Lib.hid (by rw [← hW]; exact k1)
  have HB : Hid (Below w.heap.size w W) := Lib.hid (by rw [← hW]; exact below_new _ _)
  have hz : w.heap.size < W.heap.size := by rw [← hW]; simp
  clear hW k1
  go_loopw [5, 6] (fun v i wr => ∃ k : Nat, k ≤ a.l.length ∧ i = .int .i64 k ∧ v = .int .i64 (maxL (depV r) ([] ++ a.l.take k)) ∧ Hid (Below W.heap.size W wr)) (fun _ i _ => a.l.length - (intOf i).toNat)
  case atStart => exact ⟨0, by omega, rfl, rfl, Lib.hid (Below.refl _ _)⟩
  case round =>
    obtain ⟨k, hk, rfl, rfl, hbel⟩ := hrel
    obtain ⟨c0, c1, c2, c3, c4⟩ := K1.out.below hbel.out hz
    by_cases hlt : k < a.l.length
    · obtain ⟨b, off, x, A1, e1, A2, e2, rfl, _, hb, hx, q, rx⟩ := (RL.out.next (bnext HB.out hbel.out)).elem hlt
      obtain ⟨q0, q1, q2, q3, q4⟩ := q
      have RX := Lib.hid rx
      have ST := Lib.hid (maxL_step (depV r) [] a.l k hx)
      have hmx := HX.out ([] ++ a.l.take k)
      have hdx := depV_le r x
      clear rx hx
      generalize maxL (depV r) ([] ++ a.l.take k) = M at ST hmx
      go_wp2_with fail
      refine (IH.out _ _ x _ _ _ _ (more - 1) HM.out (by omega) RX.out).mono ?_
      rintro e w1 ⟨rfl, hb1⟩
      have B2 := Lib.hid (bnext hbel.out hb1)
      clear hb1
      go_wp2
      go_roundw
      case rel => exact ⟨k + 1, by omega, by go_num, congrArg (Value.int .i64) (by rw [ST.out]; split <;> omega), B2⟩
      case measure => simp [intOf]; omega
    · obtain rfl : k = a.l.length := by omega
      have EL := Lib.hid (show [] ++ a.l.take a.l.length = a.l by simp)
      rw [EL.out]
      have hml := HX.out a.l
      go_wp2
      clear c0 c1 c2 c3 c4
      go_loopw [5, 7] (fun v i wx => ∃ k : Nat, k ≤ a.m.length ∧ i = .int .i64 k ∧ v = .int .i64 (maxL (depV r) (a.l ++ a.m.take k)) ∧ Hid (Below W.heap.size W wx)) (fun _ i _ => a.m.length - (intOf i).toNat)
      case atStart => exact ⟨0, by omega, rfl, by simp, hbel⟩
      case round =>
        obtain ⟨k, hk, rfl, rfl, hbel2⟩ := hrel
        obtain ⟨c0, c1, c2, c3, c4⟩ := K1.out.below hbel2.out hz
        by_cases hlt2 : k < a.m.length
        · obtain ⟨b, off, x, A1, e1, A2, e2, rfl, _, hb, hx, q, rx⟩ := (RM.out.next (bnext HB.out hbel2.out)).elem hlt2
          obtain ⟨q0, q1, q2, q3, q4⟩ := q
          have RX := Lib.hid rx
          have ST := Lib.hid (maxL_step (depV r) a.l a.m k hx)
          have hmx := HX.out (a.l ++ a.m.take k)
          have hdx := depV_le r x
          clear rx hx
          generalize maxL (depV r) (a.l ++ a.m.take k) = M at ST hmx
          go_wp2_with fail
          refine (IH.out _ _ x _ _ _ _ (more - 1) HM.out (by omega) RX.out).mono ?_
          rintro e w1 ⟨rfl, hb1⟩
          have B2 := Lib.hid (bnext hbel2.out hb1)
          clear hb1
          go_wp2
          go_roundw
          case rel => exact ⟨k + 1, by omega, by go_num, congrArg (Value.int .i64) (by rw [ST.out]; split <;> omega), B2⟩
          case measure => simp [intOf]; omega
        · obtain rfl : k = a.m.length := by omega
          have EM := Lib.hid (show a.l ++ a.m.take a.m.length = a.l ++ a.m by simp)
          rw [EM.out]
          have hml2 := HX.out (a.l ++ a.m)
          have DV := Lib.hid (show depV (r + 1) a = 1 + maxL (depV r) (a.l ++ a.m) by rw [maxL_append]; rfl)
          have BB := Lib.hid (bnext HB.out hbel2.out)
          go_wp2
          go_ret
          exact ⟨ret_int (by rw [DV.out]; omega), BB.out⟩

theorem rdep_any : ∀ r, RDep r
  | 0 => rdep_zero
  | r + 1 => rdep_succ r (rdep_any r)

set_option maxHeartbeats 800000 in
theorem refDepth_any (w : World) (da : Nat) (a : V) (A : Option Addr) (c : Nat) (A' : Option Addr) (c' : Nat) (ra : Rd w 0 w.heap.size da a A c A' c') :
    Calls Try.prog 19 #[vl a A c A' c'] w fun x w' => x = .returned (.int .i64 (depV 12 a)) ∧ Below w.heap.size w w' := by
  have RA := Lib.hid (ra.next (below_new w (.cells #[.int .i64 a.k, .int .i64 a.n, .string a.s, .slice A a.l.length c, .slice A' a.m.length c'] 24)))
  clear ra
  unfold vl
  go_enter Try.func19, Try.ntmps19
  go_wp2_with fail
  refine (rdep_any 12 _ da a _ _ _ _ 12 rfl (by omega) RA.out).mono ?_
  rintro x w1 ⟨rfl, hb1⟩
  have HB := Lib.hid (bnext (below_new _ _) hb1)
  clear hb1
  go_wp2
  go_ret
  exact ⟨by rfl, HB.out⟩
end Go.Proofs.Ytdolejafihgpmaa
