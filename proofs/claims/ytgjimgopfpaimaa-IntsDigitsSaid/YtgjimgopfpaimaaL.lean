/- Two numbers' sum and product, as a call with two arguments makes them: what has room, and the error's number. -/
import Derived.Test.YtgjimgopfpaimaaK
import Derived.OpenShut
namespace Go.Proofs.Ytgjimgopfpaimaa
open Go.RowKit

def errB (n : Int) : Int := if fitsB n then 0 else 10
theorem errB_ok {n : Int} (h : fitsB n = true) : errB n = 0 := by simp [errB, h]
theorem errB_no {n : Int} (h : fitsB n = false) : errB n = 10 := by simp [errB, h]

theorem runs_add2 (x y : Int) (hx : fitsB x = true) : valOf (runs (· + ·) 0 [x, y]) = room (x + y) ∧ errOf (runs (· + ·) 0 [x, y]) = errB (x + y) := by
  simp only [runs, Int.zero_add, hx, if_true]
  cases h : fitsB (x + y) <;> simp [valOf, errOf, room, errB, h]
theorem runs_mul2 (x y : Int) (hx : fitsB x = true) : valOf (runs (· * ·) 1 [x, y]) = room (x * y) ∧ errOf (runs (· * ·) 1 [x, y]) = errB (x * y) := by
  simp only [runs, Int.one_mul, hx, if_true]
  cases h : fitsB (x * y) <;> simp [valOf, errOf, room, errB, h]

theorem add2 (w : World) (x y s : Int) (hx : fitsB x = true) (hy : fitsB y = true) (hs : x + y = s) : Calls Try.prog 11 #[.slice (some ⟨w.heap.size, 0, none⟩) 2 2] (w.alloc (.cells #[.int .i64 x, .int .i64 y] 3)) fun e w' => e = .returned (.tuple #[.int .i64 (room s), .int .i64 (errB s)]) ∧ Below w.heap.size w w' := by
  have h := add_two w x y hx hy
  rwa [(runs_add2 x y hx).1, (runs_add2 x y hx).2, hs] at h
theorem mul2 (w : World) (x y s : Int) (hx : fitsB x = true) (hy : fitsB y = true) (hs : x * y = s) : Calls Try.prog 13 #[.slice (some ⟨w.heap.size, 0, none⟩) 2 2] (w.alloc (.cells #[.int .i64 x, .int .i64 y] 3)) fun e w' => e = .returned (.tuple #[.int .i64 (room s), .int .i64 (errB s)]) ∧ Below w.heap.size w w' := by
  have h := mul_two w x y hx hy
  rwa [(runs_mul2 x y hx).1, (runs_mul2 x y hx).2, hs] at h

theorem fits_of_wf {n : Int} (h : (Lit.int .i64 n).wf = true) : fitsB n = true := (fits_iff n).2 (bounds_i64 h)
end Go.Proofs.Ytgjimgopfpaimaa
