/- IntsMuls: of any slice of numbers and any two numbers the law's call answers true. -/
import Derived.Test.YtgjimgopfpaimaaTc
namespace Go.Proofs.Ytgjimgopfpaimaa
open Go.RowKit

theorem rmul2 (w : World) (x y s : Int) (hx : fitsB x = true) (hy : fitsB y = true) (hs : x * y = s) : Calls Try.prog 14 #[.slice (some ⟨w.heap.size, 0, none⟩) 2 2] (w.alloc (.cells #[.int .i64 x, .int .i64 y] 3)) fun e w' => e = .returned (.tuple #[.int .i64 (room s), .int .i64 (errB s)]) ∧ Below w.heap.size w w' := by
  have hI := two_new w 3 x y hx hy
  have h := refMul_any (some ⟨w.heap.size, 0, none⟩) 2 2 [x, y] (w.alloc (.cells #[.int .i64 x, .int .i64 y] 3)) (by simpa using hI)
  rw [(runs_mul2 x y hx).1, (runs_mul2 x y hx).2, hs] at h
  exact h.mono fun _ _ ⟨he, hb⟩ => ⟨he, bnext (below_new _ _) hb⟩

set_option maxHeartbeats 800000 in
set_option maxRecDepth 100000 in
theorem muls_big (A : Option Addr) (n c : Nat) (x k : Int) (w : World) (h : 200 < n) :
    Calls Try.prog 4 #[.slice A n c, .int .i64 x, .int .i64 k] w fun e w' => e = .returned (.bool true) ∧ Below w.heap.size w w' := by
  go_enter Try.func4, Try.ntmps4
  go_wp2_with fail
  refine (known_any _).mono ?_
  rintro e w1 ⟨rfl, hb⟩
  have B1 := Lib.hid hb
  clear hb
  go_wp2
  go_ret
  exact ⟨rfl, B1.out⟩

set_option maxHeartbeats 1600000 in
set_option maxRecDepth 100000 in
theorem muls_small (A : Option Addr) (n c : Nat) (l : List Int) (x k N J : Int) (w : World) (h : Ints w w.heap.size A n l) (hn : n ≤ 200) (hx : fitsB x = true) (hk : fitsB k = true)
    (c6 : Hid (∀ W : World, Calls Try.prog 16 #[.int .i64 x] W fun e w' => e = .returned (.tuple #[.int .i64 N, .int .i64 J]) ∧ W = w'))
    (c7 : Hid (∀ W : World, Calls Try.prog 14 #[.slice (some ⟨W.heap.size, 0, none⟩) 2 2] (W.alloc (.cells #[.int .i64 x, .int .i64 (-1)] 3)) fun e w' => e = .returned (.tuple #[.int .i64 N, .int .i64 J]) ∧ Below W.heap.size W w')) :
    Calls Try.prog 4 #[.slice A n c, .int .i64 x, .int .i64 k] w fun e w' => e = .returned (.bool true) ∧ Below w.heap.size w w' := by
  have C1 := Lib.hid (mul_any A w.heap.size n c l w h)
  have C2 := Lib.hid (refMul_any A n c l w h)
  have C4 := Lib.hid (fun W => rmul2 W x k _ hx hk rfl)
  have C3 := Lib.hid (fun W (h0 : 0 ≤ k) => times_pos x k W h0 hx hk)
  rw [(runs_mul2 x k hx).1, (runs_mul2 x k hx).2] at C3
  clear h hx hk
  generalize valOf (runs (· * ·) 1 l) = u at C1 C2
  generalize errOf (runs (· * ·) 1 l) = v at C1 C2
  generalize room (x * k) = P at C3 C4
  generalize errB (x * k) = E at C3 C4
  by_cases hk0 : k < 0
  · go_enter Try.func4, Try.ntmps4
    go_wp2_with fail
    refine C1.out.mono ?_
    rintro e w1 ⟨rfl, rfl⟩
    go_wp2_with fail
    refine C2.out.mono ?_
    rintro e w2 ⟨rfl, hb⟩
    have B2 := Lib.hid hb
    clear hb
    go_wp2_with fail
    refine (times_neg _ _ _ hk0).mono ?_
    rintro e w3 ⟨rfl, rfl⟩
    go_wp2_with fail
    refine (C4.out _).mono ?_
    rintro e w4 ⟨rfl, hb⟩
    have B4 := Lib.hid hb
    clear hb
    go_wp2_with fail
    refine (c6.out _).mono ?_
    rintro e w' ⟨rfl, rfl⟩
    go_wp2_with fail
    refine (c7.out _).mono ?_
    rintro e w5 ⟨rfl, hb⟩
    have B5 := Lib.hid hb
    clear hb
    go_wp2_with fail
    refine (known_any _).mono ?_
    rintro e w6 ⟨rfl, hb⟩
    have B6 := Lib.hid hb
    clear hb
    go_wp2
    go_ret
    exact ⟨rfl, bnext (bnext (bnext B2.out B4.out) B5.out) B6.out⟩
  · have hk1 : 0 ≤ k := by omega
    go_enter Try.func4, Try.ntmps4
    go_wp2_with fail
    refine C1.out.mono ?_
    rintro e w1 ⟨rfl, rfl⟩
    go_wp2_with fail
    refine C2.out.mono ?_
    rintro e w2 ⟨rfl, hb⟩
    have B2 := Lib.hid hb
    clear hb
    go_wp2_with fail
    refine (C3.out _ hk1).mono ?_
    rintro e w3 ⟨rfl, hb⟩
    have B3 := Lib.hid hb
    clear hb
    go_wp2_with fail
    refine (C4.out _).mono ?_
    rintro e w4 ⟨rfl, hb⟩
    have B4 := Lib.hid hb
    clear hb
    go_wp2_with fail
    refine (c6.out _).mono ?_
    rintro e w' ⟨rfl, rfl⟩
    go_wp2_with fail
    refine (c7.out _).mono ?_
    rintro e w5 ⟨rfl, hb⟩
    have B5 := Lib.hid hb
    clear hb
    go_wp2_with fail
    refine (known_any _).mono ?_
    rintro e w6 ⟨rfl, hb⟩
    have B6 := Lib.hid hb
    clear hb
    go_wp2
    go_ret
    exact ⟨rfl, bnext (bnext (bnext (bnext B2.out B3.out) B4.out) B5.out) B6.out⟩

theorem muls_walk (A : Option Addr) (len cap : Nat) (zs : List Int) (x k : Int) (w : World) (hx : fitsB x = true) (hk : fitsB k = true)
    (h : (A = none ∧ len = 0 ∧ cap = 0 ∧ zs = []) ∨ ∃ x, A = some x ∧ len ≤ cap ∧ cap ≤ maxLen ∧ zs.length = cap ∧ (∀ i, i < zs.length → w.cell? (x.add i) = some (.int .i64 (zs.getD i 0))) ∧ ∀ n ∈ zs, (Lit.int .i64 n).wf = true) :
    Calls Try.prog 4 #[.slice A len cap, .int .i64 x, .int .i64 k] w fun e w' => e = .returned (.bool true) ∧ Below w.heap.size w w' := by
  by_cases h1 : 200 < len
  · exact muls_big A len cap x k w h1
  · have hI := ints_of h (by omega)
    by_cases hm : x = -9223372036854775808
    · have hf : fitsB (-x) = false := by rw [fits_not]; omega
      have C7 := fun W => rmul2 W x (-1) (-x) hx (by decide) (by omega)
      rw [room_no hf, errB_no hf] at C7
      exact muls_small A len cap _ x k 0 10 w hI (by omega) hx hk (Lib.hid fun W => neg_min x W (by simp [hm])) (Lib.hid C7)
    · have hf : fitsB (-x) = true := by
        have := (fits_iff _).1 hx
        rw [fits_iff]; omega
      have C7 := fun W => rmul2 W x (-1) (-x) hx (by decide) (by omega)
      rw [room_ok hf, errB_ok hf] at C7
      exact muls_small A len cap _ x k (-x) 0 w hI (by omega) hx hk (Lib.hid fun W => neg_ok x W (by simp [hm]) hf) (Lib.hid C7)
end Go.Proofs.Ytgjimgopfpaimaa
