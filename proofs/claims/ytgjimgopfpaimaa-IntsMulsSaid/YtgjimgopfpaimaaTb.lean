/- The document's product of two numbers of any greatness: contract of Times. -/
import Derived.Test.YtgjimgopfpaimaaTa
import Derived.Deep.OwnRows
namespace Go.Proofs.Ytgjimgopfpaimaa
open Go.RowKit

def zrow (n : Nat) : Array Value := madeCells #[.int .i64 0] n
theorem zrow_eq (n : Nat) : zrow n = ((List.replicate n (0 : Int)).map (Value.int .i64)).toArray := by
  unfold zrow
  apply Array.ext
  · simp [madeCells]
  · intro i h1 h2
    simp [madeCells, Nat.mod_one]
theorem make_n (N : Nat) (hN : N ≤ 100000) (W : World) : (Instr.makeSlice 22 (.int .i64 (N : Int)) (.int .i64 (N : Int))).run Try.prog W = .ok (.slice (some ⟨W.heap.size, 0, none⟩) N N) (W.alloc (.cells (zrow N) 3)) :=
  run_make_row' 22 3 (.int .i64 0) 8 Try.underlying22 info3 rfl .i64 .i64 N (by omega) (by omega) W
theorem blk_new (W : World) (N : Nat) : Blk (W.alloc (.cells (zrow N) 3)) W.heap.size (List.replicate N 0) := by
  unfold Blk
  rw [zrow_eq]
  exact heap_alloc_new W _
theorem valD_zeros : ∀ n, valD (List.replicate n 0) = 0
  | 0 => rfl
  | n + 1 => by simp [List.replicate_succ, valD, valD_zeros n]
theorem digs_zeros (n : Nat) : Digs (List.replicate n 0) := fun x hx => by
  rw [List.eq_of_mem_replicate hx]; omega

set_option maxHeartbeats 1600000 in
set_option maxRecDepth 100000 in
theorem times_core (m1 m2 : Bool) (A1 A2 : Option Addr) (n1 n2 c1 c2 : Nat) (a b : List Int) (w : World) (h1 : Ints w w.heap.size A1 n1 a) (h2 : Ints w w.heap.size A2 n2 b) (ha : Digs a) (hb : Digs b) (k1 : n1 ≤ 1000) (k2 : n2 ≤ 1000) :
    Calls Try.prog 30 #[.agg #[.bool m1, .slice A1 n1 c1], .agg #[.bool m2, .slice A2 n2 c2]] w fun e w' => SomeNum w' (n1 + n2 + 1) e ((if m1 then -valD a else valD a) * (if m2 then -valD b else valD b)) ∧ Below w.heap.size w w' := by
  have H1 := Lib.hid h1
  have H2 := Lib.hid h2
  have HD1 := Lib.hid ha
  have HD2 := Lib.hid hb
  clear h1 h2 ha hb
  generalize hx : (if m1 then -valD a else valD a) * (if m2 then -valD b else valD b) = X
  have HX := Lib.hid hx
  clear hx
  have hmk : ∀ W, (Instr.makeSlice 22 (.int .i64 ((n1 : Int) + (n2 : Int) + 1)) (.int .i64 ((n1 : Int) + (n2 : Int) + 1))).run Try.prog W = .ok (.slice (some ⟨W.heap.size, 0, none⟩) (n1 + n2 + 1) (n1 + n2 + 1)) (W.alloc (.cells (zrow (n1 + n2 + 1)) 3)) := fun W => by
    have := make_n (n1 + n2 + 1) (by omega) W
    rwa [show ((n1 + n2 + 1 : Nat) : Int) = (n1 : Int) + (n2 : Int) + 1 from by omega] at this
  go_enter Try.func30, Try.ntmps30
  go_wp2
  clear hmk
  go_loopw [6] (fun i wr => ∃ (k : Nat) (D : List Int), k ≤ n1 ∧ i = .int .i64 k ∧ Hid (D.length = n1 + n2 + 1) ∧ Hid (Digs D) ∧ Hid (valD D = valD (a.take k) * valD b) ∧ Hid (∀ j, k + n2 ≤ j → D.getD j 0 = 0) ∧ Hid (Blk wr (w.heap.size + 1 + 1 + 1) D) ∧ Hid (Below (w.heap.size + 3) (plusW w (.bool m1) (.slice A1 n1 c1) (.bool m2) (.slice A2 n2 c2)) wr)) (fun i _ => n1 - (intOf i).toNat)
  case atStart =>
    exact ⟨0, List.replicate (n1 + n2 + 1) 0, by omega, rfl, Lib.hid (by simp), Lib.hid (digs_zeros _), Lib.hid (by rw [valD_zeros]; simp [valD]), Lib.hid (fun j _ => by simp [List.getElem?_replicate]; split <;> rfl), Lib.hid (by have h := blk_new (plusW w (.bool m1) (.slice A1 n1 c1) (.bool m2) (.slice A2 n2 c2)) (n1 + n2 + 1); rw [plusW_size] at h; exact h), Lib.hid ((Below.refl _ _).alloc (by rw [plusW_size]; exact Nat.le_refl _) _)⟩
  case round =>
    obtain ⟨i, D, hi, rfl, hDl, hDd, hDv, hDz, hBlk, hbel⟩ := hrel
    obtain ⟨p0, p1, q0, q1, r0, r1, f0, f1⟩ := plusW_cells w (.bool m1) (.slice A1 n1 c1) (.bool m2) (.slice A2 n2 c2)
    have HC := Lib.hid (And.intro p0 (And.intro p1 (And.intro q0 (And.intro q1 (And.intro r0 (And.intro r1 (And.intro f0 f1)))))))
    clear p0 p1 q0 q1 r0 r1 f0 f1
    have p1 := cell_kept hbel.out (by show w.heap.size < _; omega) HC.out.2.1
    have hsz : w.heap.size + 3 ≤ wr.heap.size := by have := hbel.out.size; rwa [plusW_size] at this
    by_cases hT : i < n1
    · have hTi : (i : Int) < (n1 : Int) := by omega
      go_wp2
      go_loopw [7, 8] (fun y k ws => ∃ (j : Nat) (c : Int) (E : List Int), k = .int .i64 j ∧ y = .int .i64 c ∧ Hid (0 ≤ c ∧ c ≤ 9 ∧ j ≤ n2 + 1 ∧ (j = n2 + 1 → c = 0)) ∧ Hid (E.length = n1 + n2 + 1) ∧ Hid (Digs E) ∧ Hid (valD E + ten (i + j) * c = valD D + ten i * (a.getD i 0 * valD (b.take j))) ∧ Hid (∀ q, i + j ≤ q → E.getD q 0 = D.getD q 0) ∧ Hid (Blk ws (w.heap.size + 1 + 1 + 1) E) ∧ Hid (Below (w.heap.size + 3) (plusW w (.bool m1) (.slice A1 n1 c1) (.bool m2) (.slice A2 n2 c2)) ws)) (fun _ k _ => n2 + 2 - (intOf k).toNat)
      case atStart => exact ⟨0, 0, D, rfl, rfl, Lib.hid (by omega), hDl, hDd, Lib.hid (by simp [valD]), Lib.hid (fun _ _ => rfl), hBlk, hbel⟩
      case round =>
        obtain ⟨j, c, E, rfl, rfl, hjc, hEl, hEd, hEv, hEz, hBlk2, hbel2⟩ := hrel
        clear p1 hsz
        have p1 := cell_kept hbel2.out (by show w.heap.size < _; omega) HC.out.2.1
        have q1 := cell_kept hbel2.out (by show w.heap.size + 1 < _; omega) HC.out.2.2.2.1
        have hsz : w.heap.size + 3 ≤ wr.heap.size := by have := hbel2.out.size; rwa [plusW_size] at this
        have I1 : Hid (Ints wr wr.heap.size A1 n1 a) := Lib.hid (((H1.out.below (plusW_below ..) (Nat.le_refl _)).below hbel2.out (by omega)).more (by omega))
        have I2 : Hid (Ints wr wr.heap.size A2 n2 b) := Lib.hid (((H2.out.below (plusW_below ..) (Nat.le_refl _)).below hbel2.out (by omega)).more (by omega))
        have c0 := hjc.out.1
        have c9 := hjc.out.2.1
        have hjn := hjc.out.2.2.1
        by_cases hT2 : j < n2 ∨ 0 < c
        · have hj' : j ≤ n2 := by
            rcases hT2 with h | h
            · omega
            · have := hjc.out.2.2.2; omega
          have e0 := digs_getD hEd.out (i + j)
          have d1 := digs_getD HD1.out i
          have d2 := digs_getD HD2.out j
          have ce := hBlk2.out.cell (i + j) (by have := hEl.out; omega)
          have cf := hBlk2.out.frozen (i + j)
          obtain ⟨bb, off, hAe, hbb, hcc⟩ := I1.out.2.2.2 (by omega)
          have ca := hcc i hT
          clear hcc
          have D2 : Hid (∀ q, Calls Try.prog 44 #[.slice A2 n2 c2, .int .i64 (j : Int)] (wr.drewN q) fun e w'' => e = .returned (.int .i64 (b.getD j 0)) ∧ ∃ m, w'' = wr.drewN m) := Lib.hid fun q => quiet_eq (digit_any A2 wr.heap.size n2 c2 b j (wr.drewN q) I2.out (by omega))
          have ST := Lib.hid (mul_step E b i j (valD D) (a.getD i 0) c (E.getD (i + j) 0 + a.getD i 0 * b.getD j 0 + c) (by have := hEl.out; omega) hEv.out rfl)
          have Z0 : Hid (j = n2 → E.getD (i + j) 0 = 0 ∧ a.getD i 0 * b.getD j 0 = 0) := Lib.hid (fun h => ⟨by rw [hEz.out _ (Nat.le_refl _)]; exact hDz.out _ (by omega), by have := I2.out.1; rw [show b.getD j 0 = 0 from by simp [show b.length ≤ j by omega]]; simp⟩)
          have mb : 0 ≤ a.getD i 0 * b.getD j 0 ∧ a.getD i 0 * b.getD j 0 ≤ 81 := ⟨Int.mul_nonneg d1.1 d2.1, by have := Int.mul_le_mul d1.2 d2.2 d2.1 (by omega : (0 : Int) ≤ 9); omega⟩
          generalize E.getD (i + j) 0 = e at e0 ce ST Z0
          generalize a.getD i 0 = x at d1 ca ST mb Z0
          generalize b.getD j 0 = y at d2 D2 ST mb Z0
          rw [hAe] at p1
          have HAE := Lib.hid hAe
          clear hAe
          have hN : (i : Int) + (j : Int) < (n1 : Int) + (n2 : Int) + 1 := by omega
          have hN0 : 0 ≤ (i : Int) + (j : Int) := by omega
          have hN2 : i + j < n1 + n2 + 1 := by omega
          have t : (j < n2) ∨ (¬ j < n2 ∧ 0 < c) := by omega
          clear hT2
          rcases t with t1 | ⟨t1, t2⟩
          all_goals
            go_wp2_with fail
            go_quiet ((go_at_call 44; exact D2.out _))
            clear D2
            go_wp2
            go_roundw
            case rel => exact ⟨j + 1, (e + x * y + c) / 10, E.set (i + j) ((e + x * y + c) % 10), by go_num, rfl, Lib.hid (by have := Z0.out; omega), Lib.hid (by rw [List.length_set]; exact hEl.out), Lib.hid (digs_set hEd.out _ _ (by omega) (by omega)), ST, Lib.hid (fun q hq => by rw [getD_set_other _ _ _ _ (by omega)]; exact hEz.out q (by omega)), Lib.hid ((hBlk2.out.drewN nq).set _ _), Lib.hid ((below_drewN hbel2.out nq).setCell (by show w.heap.size + 3 ≤ w.heap.size + 1 + 1 + 1; omega) _)⟩
            case measure => simp [intOf]; omega
        · have u1 : ¬ j < n2 := by omega
          have u2 : ¬ 0 < c := by omega
          have EV : Hid (valD E = valD (a.take (i + 1)) * valD b) := Lib.hid (by
            have e1 := hEv.out
            have e2 : c = 0 := by omega
            rw [e2, Int.mul_zero, Int.add_zero, valD_all (by have := I2.out.1; omega), hDv.out] at e1
            rw [e1, ← mul_row])
          have EZ : Hid (∀ q, i + 1 + n2 ≤ q → E.getD q 0 = 0) := Lib.hid (fun q hq => by rw [hEz.out q (by omega)]; exact hDz.out q (by omega))
          clear hT2 hEv hEz hDv hDz hBlk hbel hDl hDd
          go_wp2
          go_roundw
          case rel => exact ⟨i + 1, E, by omega, by go_num, hEl, hEd, EV, EZ, hBlk2, hbel2⟩
          case measure => simp [intOf]; omega
    · obtain rfl : i = n1 := by omega
      have EV : Hid (valD D = valD a * valD b) := Lib.hid (by rw [hDv.out, valD_all (by have := H1.out.1; omega)])
      have p0 := cell_kept hbel.out (by show w.heap.size < _; omega) HC.out.1
      have q0 := cell_kept hbel.out (by show w.heap.size + 1 < _; omega) HC.out.2.2.1
      have r0 := cell_kept hbel.out (by show w.heap.size + 1 + 1 < _; omega) HC.out.2.2.2.2.1
      have r1 := cell_kept hbel.out (by show w.heap.size + 1 + 1 < _; omega) HC.out.2.2.2.2.2.1
      have f0 := frozen_kept hbel.out (by show w.heap.size + 1 + 1 < _; omega) HC.out.2.2.2.2.2.2.1
      have f1 := frozen_kept hbel.out (by show w.heap.size + 1 + 1 < _; omega) HC.out.2.2.2.2.2.2.2
      have hI := hBlk.out.ints (by have := hDl.out; omega) hDd.out
      rw [hDl.out] at hI
      have HI := Lib.hid hI
      have HBZ := Lib.hid hbel.out
      clear hI hDv hDz
      go_wp2_with fail
      refine (trim_any _ _ _ _ _ _ _ HI.out (Nat.le_refl _) (Nat.le_refl _) (by unfold maxLen; omega)).mono ?_
      rintro e w1 ⟨⟨j, rfl, hk, hvk, hnk⟩, hb1⟩
      have HVK := Lib.hid hvk
      have HN := Lib.hid hnk
      have r0 := cell_kept hb1 (by show w.heap.size + 1 + 1 < _; omega) r0
      have r1 := cell_kept hb1 (by show w.heap.size + 1 + 1 < _; omega) r1
      have f0 := frozen_kept hb1 (by show w.heap.size + 1 + 1 < _; omega) f0
      have f1 := frozen_kept hb1 (by show w.heap.size + 1 + 1 < _; omega) f1
      have K1 := Lib.hid (((HI.out.front j hk).below hb1 (Nat.le_refl _)).more hb1.size)
      have HB3 : Hid (Below w.heap.size w w1) := Lib.hid (((plusW_below ..).trans (hbel.out.mono (by omega))).trans (hb1.mono (by omega)))
      clear hvk hnk hb1 p0 p1 q0 hbel
      go_wp2
      refine bodyPost_ret (v := .agg #[.bool (!(m1 == m2) && decide (0 < j)), .slice (some ⟨w.heap.size + 1 + 1 + 1, 0, none⟩) j (i + n2 + 1)]) (by simp [results, Try.results30, go_sem, r0, r1]) rfl ⟨⟨_, rfl, num_store _ r0 r1 K1.out (by omega) (by unfold maxLen; omega) hk (digs_take hDd.out j) HN.out (by intro e; simp at e; exact e.2) ?_⟩, (HB3.out.setCell (by show w.heap.size ≤ w.heap.size + 1 + 1; omega) _).setCell (by show w.heap.size ≤ w.heap.size + 1 + 1; omega) _⟩
      rw [← HX.out, HVK.out, EV.out]
      have hs := sign_zero (!(m1 == m2)) j (valD a * valD b) (fun e => by
        have h1 := HVK.out
        rw [e] at h1
        rw [← EV.out, ← h1]
        rfl)
      rw [← hs]
      cases m1 <;> cases m2 <;> simp [Int.neg_mul, Int.mul_neg]

theorem times_num (K1 K2 : Nat) (v1 v2 : Value) (x y : Int) (w : World) (h1 : NumV w K1 v1 x) (h2 : NumV w K2 v2 y) (hK1 : K1 ≤ 1000) (hK2 : K2 ≤ 1000) :
    Calls Try.prog 30 #[v1, v2] w fun e w' => SomeNum w' (K1 + K2 + 1) e (x * y) ∧ Below w.heap.size w w' := by
  obtain ⟨m1, A1, n1, c1, a, rfl, i1, _, _, k1, d1, o1, _, rfl⟩ := h1
  obtain ⟨m2, A2, n2, c2, b, rfl, i2, _, _, k2, d2, o2, _, rfl⟩ := h2
  refine (times_core m1 m2 A1 A2 n1 n2 c1 c2 a b w i1 i2 d1 d2 (by omega) (by omega)).mono ?_
  rintro e w' ⟨⟨v, rfl, hv⟩, hb⟩
  exact ⟨⟨v, rfl, hv.more (by omega)⟩, hb⟩
end Go.Proofs.Ytgjimgopfpaimaa
