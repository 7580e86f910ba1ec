/- The document's numbers of any greatness: contracts of Int and told. -/
import Derived.Test.YtgjimgopfpaimaaT
namespace Go.Proofs.Ytgjimgopfpaimaa
open Go.RowKit

theorem valD_drop_le {l : List Int} (h : Digs l) (k : Nat) : valD (l.drop k) ≤ valD l := by
  have e : valD l = valD (l.take k) + ten (l.take k).length * valD (l.drop k) := by rw [← valD_append, List.take_append_drop]
  have h1 := valD_nonneg (digs_take h k)
  have h2 : 0 ≤ valD (l.drop k) := valD_nonneg (fun x hx => h x (List.mem_of_mem_drop hx))
  have h3 := Int.mul_le_mul_of_nonneg_right (show (1 : Int) ≤ ten (l.take k).length by have := ten_pos (l.take k).length; omega) h2
  rw [Int.one_mul] at h3
  omega
theorem valD_drop_step (l : List Int) (j : Nat) (h : j < l.length) : valD (l.drop j) = l.getD j 0 + 10 * valD (l.drop (j + 1)) := by
  rw [drop_cons l j h]; rfl

theorem no_fit {x : Int} (h : x < -9223372036854775808 ∨ 9223372036854775807 < x) : room x = 0 ∧ fitsB x = false := by
  have : fitsB x = false := by rw [fits_not]; omega
  exact ⟨room_no this, this⟩
theorem ret_two {a b c d : Int} (h1 : a = c) (h2 : b = d) : Ending.returned (.tuple #[.int .i64 a, .int .i64 b]) = .returned (.tuple #[.int .i64 c, .int .i64 d]) := by rw [h1, h2]
theorem ret_no {x : Int} (h1 : room x = 0) (h2 : fitsB x = false) : Ending.returned (.tuple #[.int .i64 0, .bool false]) = .returned (.tuple #[.int .i64 (room x), .bool (fitsB x)]) := by rw [h1, h2]
theorem ret_yes {x v : Int} (h1 : x = v) (h2 : fitsB x = true) : Ending.returned (.tuple #[.int .i64 v, .bool true]) = .returned (.tuple #[.int .i64 (room x), .bool (fitsB x)]) := by rw [room_ok h2, h2, h1]

/-- The two cells of a struct that a value parameter is laid into, and what lay there before. -/
theorem box_old (w : World) (o : Obj) {p : Addr} {v : Value} (h : p.block < w.heap.size) (hc : w.cell? p = some v) : (w.alloc o).cell? p = some v := by
  rw [World.cell?_alloc_lt w o p h]; exact hc

set_option maxHeartbeats 1600000 in
theorem int_core (m : Bool) (A : Option Addr) (n c : Nat) (ds : List Int) (w : World) (hI : Ints w w.heap.size A n ds) (_hnc : n ≤ c) (hn : n ≤ 100000) (hd : Digs ds) (x : Int) (hx : x = if m then -valD ds else valD ds) :
    Calls Try.prog 27 #[.agg #[.bool m, .slice A n c]] w fun e w' => e = .returned (.tuple #[.int .i64 (room x), .bool (fitsB x)]) ∧ Below w.heap.size w w' := by
  have HI := Lib.hid hI
  have HD := Lib.hid hd
  have HX := Lib.hid hx
  clear hI hd hx
  go_enter Try.func27, Try.ntmps27
  go_wp2
  go_loop [4, 5] (fun y i => ∃ (k : Nat) (v : Int), k ≤ n ∧ i = .int .i64 ((k : Int) - 1) ∧ y = .int .i64 (-v) ∧ Hid (v = valD (ds.drop k)) ∧ Hid (0 ≤ v) ∧ Hid (v ≤ 9223372036854775808)) (fun _ i => (intOf i + 1).toNat)
  case atStart =>
    exact ⟨n, 0, Nat.le_refl _, rfl, rfl, Lib.hid (by rw [List.drop_eq_nil_of_le (by have := HI.out.1; omega)]; rfl), Lib.hid (by omega), Lib.hid (by omega)⟩
  case round =>
    obtain ⟨k, v, hk, rfl, rfl, hv, hv0, hv1⟩ := hrel
    have v0 := hv0.out
    have v1 := hv1.out
    by_cases h0 : 0 < k
    · obtain ⟨j, rfl⟩ : ∃ j, k = j + 1 := ⟨k - 1, by omega⟩
      obtain ⟨b, off, rfl, hb, hc'⟩ := HI.out.2.2.2 (by omega)
      have hca := box_old w (.cells #[.bool m, .slice (some ⟨b, off, none⟩) n c] 46) hb (hc' j (by omega))
      clear hc'
      have hdj := digs_getD HD.out j
      have HS : Hid (ds.getD j 0 + 10 * v = valD (ds.drop j)) := Lib.hid (by rw [hv.out, valD_drop_step ds j (by have := HI.out.1; omega)])
      have HL := Lib.hid (valD_drop_le HD.out j)
      generalize ds.getD j 0 = d at hca hdj HS
      have hji : ((j + 1 : Nat) : Int) - 1 = (j : Int) := by omega
      rw [hji]
      clear hji
      by_cases t1 : 922337203685477580 < v
      · have NF : Hid (room x = 0 ∧ fitsB x = false) := Lib.hid (no_fit (by have hh := HX.out; have := HS.out; have := HL.out; split at hh <;> omega))
        go_wp2
        go_ret2
        exact ⟨ret_no NF.out.1 NF.out.2, below_new _ _⟩
      · by_cases t2 : v = 922337203685477580
        · have b2 : (-v == -922337203685477580) = true := by rw [beq_iff_eq]; omega
          have b4 : ¬ v < 922337203685477580 := by omega
          by_cases t3 : 8 < d
          · have NF : Hid (room x = 0 ∧ fitsB x = false) := Lib.hid (no_fit (by have hh := HX.out; have := HS.out; have := HL.out; split at hh <;> omega))
            clear t2
            go_wp2
            go_ret2
            exact ⟨ret_no NF.out.1 NF.out.2, below_new _ _⟩
          · have b5 : v ≤ 922337203685477580 := by omega
            clear t2
            go_wp2
            go_round
            case rel => exact ⟨j, d + 10 * v, by omega, rfl, by congr 1; omega, HS, Lib.hid (by omega), Lib.hid (by omega)⟩
            case measure => simp [intOf]
        · have b2 : (-v == -922337203685477580) = false := by rw [beq_eq_false_iff_ne]; omega
          have b3 : v < 922337203685477580 := by omega
          clear t1 t2
          go_wp2
          go_round
          case rel => exact ⟨j, d + 10 * v, by omega, rfl, by congr 1; omega, HS, Lib.hid (by omega), Lib.hid (by omega)⟩
          case measure => simp [intOf]
    · obtain rfl : k = 0 := by omega
      have HV : Hid (v = valD ds) := Lib.hid (by rw [hv.out, List.drop_zero])
      clear hv
      cases m
      · by_cases t : v = 9223372036854775808
        · have b2 : (-v == -9223372036854775808) = true := by rw [beq_iff_eq]; omega
          have NF : Hid (room x = 0 ∧ fitsB x = false) := Lib.hid (no_fit (by have := HX.out; simp at this; have := HV.out; omega))
          clear t
          go_wp2
          go_ret2
          exact ⟨ret_no NF.out.1 NF.out.2, below_new _ _⟩
        · have b2 : (-v == -9223372036854775808) = false := by rw [beq_eq_false_iff_ne]; omega
          have v2 : v ≤ 9223372036854775807 := by omega
          have YF : Hid (x = v ∧ fitsB x = true) := Lib.hid (by have h1 := HX.out; simp at h1; have h2 := HV.out; exact ⟨by omega, by rw [fits_iff]; omega⟩)
          clear t
          go_wp2
          go_ret2
          exact ⟨ret_yes YF.out.1 YF.out.2, below_new _ _⟩
      · have YF : Hid (x = -v ∧ fitsB x = true) := Lib.hid (by have h1 := HX.out; simp at h1; have h2 := HV.out; exact ⟨by omega, by rw [fits_iff]; omega⟩)
        go_wp2
        go_ret2
        exact ⟨ret_yes YF.out.1 YF.out.2, below_new _ _⟩

theorem int_any (K : Nat) (v : Value) (x : Int) (w : World) (h : NumV w K v x) (hK : K ≤ 100000) :
    Calls Try.prog 27 #[v] w fun e w' => e = .returned (.tuple #[.int .i64 (room x), .bool (fitsB x)]) ∧ Below w.heap.size w w' := by
  obtain ⟨m, A, n, c, ds, rfl, hI, hnc, hcm, hk, hd, _, _, hx⟩ := h
  exact int_core m A n c ds w hI hnc (by omega) hd x hx

set_option maxHeartbeats 800000 in
theorem told_any (K : Nat) (v : Value) (x : Int) (w : World) (h : NumV w K v x) (hK : K ≤ 100000) :
    Calls Try.prog 28 #[v] w fun e w' => e = .returned (.tuple #[.int .i64 (room x), .int .i64 (errB x)]) ∧ Below w.heap.size w w' := by
  obtain ⟨m, A, n, c, ds, rfl, hI, hnc, hcm, hk, hd, hno, hm, hx⟩ := h
  have HI := Lib.hid (fun o => int_core m A n c ds (w.alloc o) ((hI.below (below_new w o) (Nat.le_refl _)).more (by simp)) hnc (by omega) hd x hx)
  clear hI hd hno hm hx hcm
  cases hf : fitsB x
  · have e1 := errB_no hf
    have e2 := room_no hf
    go_enter Try.func28, Try.ntmps28
    go_wp2_with fail
    refine (HI.out _).mono ?_
    rintro e w1 ⟨rfl, hb⟩
    have B1 := Lib.hid hb
    clear hb
    go_wp2
    go_ret2
    exact ⟨ret_two e2.symm e1.symm, bnext (below_new _ _) B1.out⟩
  · have e1 := errB_ok hf
    go_enter Try.func28, Try.ntmps28
    go_wp2_with fail
    refine (HI.out _).mono ?_
    rintro e w1 ⟨rfl, hb⟩
    have B1 := Lib.hid hb
    clear hb
    go_wp2
    go_ret2
    exact ⟨ret_two rfl e1.symm, bnext (below_new _ _) B1.out⟩
end Go.Proofs.Ytgjimgopfpaimaa
